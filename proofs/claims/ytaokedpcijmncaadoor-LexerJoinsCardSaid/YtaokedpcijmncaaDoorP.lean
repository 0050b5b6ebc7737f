/- The walk of 'LexerCovers'. -/
import Derived.Test.YtaokedpcijmncaaDoorO
import Derived.Test.YtaokedpcijmncaaDoorJ
namespace Go.Proofs.YtaokedpcijmncaaDoor
open Go.RowKit Go.Maps

theorem cut_all : ∀ (n : Nat) (l : List Item), cut n l = none → ∀ x ∈ l, x.err = 0
  | _, [], _, x, hx => by simp at hx
  | n, y :: l, h, x, hx => by
    unfold cut at h
    split at h
    · rename_i he
      have hy : y.err = 0 := by
        unfold errOf at he
        split at he
        · cases he
        · exact he
      rcases List.mem_cons.1 hx with e | e
      · rw [e]; exact hy
      · exact cut_all (n + 1) l h x e
    · cases h
theorem cut_ne : ∀ (n : Nat) (l : List Item) (er off : Int), cut n l = some (er, off) → er ≠ 0
  | _, [], _, _, h => by cases h
  | n, y :: l, er, off, h => by
    unfold cut at h
    split at h
    · exact cut_ne (n + 1) l er off h
    · rename_i he
      simp only [Option.some.injEq, Prod.mk.injEq] at h
      rw [← h.1]; exact he
/-- A token without an error is what the text says. -/
theorem item_ok (s : ByteArray) (p : Nat) (hp : p < s.size) (h : (item s p).err = 0) : (item s p).at_ = p ∧ s.extract p (p + (item s p).t.size) = (item s p).t ∧ 1 ≤ (item s p).k ∧ (item s p).k ≤ 3 := by
  have hlen := item_len s p hp h
  have key : ∀ (e : Nat), p ≤ e → e ≤ s.size → s.extract p (p + (s.extract p e).size) = s.extract p e := fun e h1 h2 => by
    rw [ByteArray.size_extract]; congr 1; omega
  unfold item at h ⊢
  split at h
  · rename_i hk
    rw [if_pos hk]
    split at h
    · cases h
    · rename_i hc
      rw [if_neg hc]
      exact ⟨rfl, key _ (rend_ge s p 7) (rend_le s p 7 (by omega)), (by decide : (1 : Int) ≤ 1), (by decide : (1 : Int) ≤ 3)⟩
  · rename_i hk
    rw [if_neg hk]
    split at h
    · rename_i hk2
      rw [if_pos hk2]
      split at h
      · cases h
      · rename_i hc
        rw [if_neg hc]
        exact ⟨rfl, key _ (Nat.le_trans (rend_ge s p 2) (nend_ge s p)) (nend_le s p (by omega)), (by decide : (1 : Int) ≤ 2), (by decide : (2 : Int) ≤ 3)⟩
    · rename_i hk2
      rw [if_neg hk2]
      split at h
      · rename_i hk8
        rw [if_pos hk8]
        have := slen_bd s p hp
        exact ⟨rfl, key _ (by omega) this.2, (by decide : (1 : Int) ≤ 3), (by decide : (3 : Int) ≤ 3)⟩
      · cases h
/-- From an offset on, gaps and tokens lead to the end. -/
def Chain (s : ByteArray) : Nat → List Item → Prop
  | a, [] => gap s a = s.size
  | a, x :: l => x.at_ = gap s a ∧ 1 ≤ x.t.size ∧ gap s a + x.t.size ≤ s.size ∧ s.extract (gap s a) (gap s a + x.t.size) = x.t ∧ 1 ≤ x.k ∧ x.k ≤ 3 ∧ Chain s (gap s a + x.t.size) l
theorem chain_its (s : ByteArray) (n : Nat) : ∀ a, a ≤ s.size → s.size - gap s a ≤ n → (∀ x ∈ its s (gap s a), x.err = 0) → Chain s a (its s (gap s a)) := by
  induction n with
  | zero =>
    intro a ha hn _
    have hg := gap_le s a ha
    rw [its_end s _ (by omega)]
    show gap s a = s.size
    omega
  | succ n ih =>
    intro a ha hn hok
    have hg := gap_le s a ha
    by_cases hp : gap s a < s.size
    · have he : (item s (gap s a)).err = 0 := by
        apply Classical.byContradiction; intro h
        rw [its_stop s _ hp h] at hok
        exact h (hok _ (by simp))
      have h1 := item_len s _ hp he
      have h2 := item_ok s _ hp he
      rw [its_go s _ hp he] at hok ⊢
      refine ⟨h2.1, h1.1, h1.2, h2.2.1, h2.2.2.1, h2.2.2.2, ih _ h1.2 ?_ (fun x hx => hok x (by simp [hx]))⟩
      have := gap_ge s (gap s a + (item s (gap s a)).t.size)
      omega
    · rw [its_end s _ hp]
      show gap s a = s.size
      omega
theorem gp_gap (s : ByteArray) (i : Nat) (hi : i ≤ s.size) : gp s i = gap s i := (gap_sfx s i hi).symm

theorem items_len (s : ByteArray) (n : Nat) : ∀ p, s.size - p ≤ n → (its s p).length ≤ n := by
  induction n with
  | zero => intro p hp; rw [its_end s p (by omega)]; exact Nat.le_refl _
  | succ n ih =>
    intro p hp
    by_cases h : p < s.size
    · by_cases he : (item s p).err = 0
      · have h1 := item_len s p h he
        have h2 := gap_ge s (p + (item s p).t.size)
        rw [its_go s p h he]
        have := ih (gap s (p + (item s p).t.size)) (by omega)
        simp only [List.length_cons]; omega
      · rw [its_stop s p h he]; simp
    · rw [its_end s p h]; simp
set_option maxRecDepth 100000 in
set_option maxHeartbeats 4000000 in
theorem covers_ok (s : ByteArray) (w : World) (hs : s.size ≤ 3000) (hT : Tab w) (hc : cut 0 (its s (gap s 0)) = none) :
    Calls Tryd.prog 3 #[.string s] w fun e w' => e = .returned (.bool true) ∧ Below w.heap.size w w' := by
  have hp := hT.pos
  have hch := chain_its s (s.size - gap s 0) 0 (Nat.zero_le _) (Nat.le_refl _) (cut_all 0 _ hc)
  have hlen : (its s (gap s 0)).length ≤ 6000 := Nat.le_trans (items_len s s.size _ (by omega)) (by omega)
  have HCH := Lib.hid hch
  have HC := Lib.hid hc
  clear hch hc
  go_enter Tryd.func3, Tryd.ntmps3
  go_wp2_with fail
  refine (head_any w hT).mono ?_
  rintro e w1 ⟨rfl, b1⟩
  go_wp2_with fail
  refine (lex_ok s w1 (by omega) (hT.below b1 hp) _ rfl HC.out).mono ?_
  rintro e w2 ⟨v2, rfl, t2, b2⟩
  generalize its s (gap s 0) = l at *
  obtain ⟨a2, c2, rfl, hcs⟩ := t2
  have HCS := Lib.hid hcs
  have HB := Lib.hid (b1.trans (b2.mono b1.size))
  clear hcs b1 b2 hT
  go_wp2_with fail
  go_loopw [7, 8] (fun a i wr => ∃ (at_ k n : Nat), a = .int .i64 at_ ∧ i = .int .i64 k ∧ k ≤ l.length ∧ at_ ≤ s.size ∧ wr = w2.drewN n ∧ Hid (Chain s at_ (l.drop k))) (fun _ i _ => l.length - (intOf i).toNat)
  case atStart => exact ⟨0, 0, 0, rfl, rfl, by omega, by omega, rfl, HCH⟩
  case round =>
    obtain ⟨at_, k, n, rfl, rfl, hk, hat, rfl, HX⟩ := hrel
    by_cases hlt : k < l.length
    · have hx : l[k]? = some l[k] := List.getElem?_eq_getElem hlt
      have hd : l.drop k = l[k] :: l.drop (k + 1) := List.drop_eq_getElem_cons hlt
      obtain ⟨g, hg, rfl, hcs⟩ := HCS.out (by intro h; rw [h] at hlt; simp at hlt)
      obtain ⟨x0, x1, x2, x3⟩ := hcs k _ hx
      have hC := HX.out
      rw [hd] at hC
      obtain ⟨h1, h2, h3, h4, h5, h6, h7⟩ := hC
      rw [h1] at x3
      have hgp := gp_gap s at_ hat
      have HC7 := Lib.hid h7
      have HGP := Lib.hid hgp
      generalize l[k] = x at *
      generalize gap s at_ = G at *
      clear h1 h7 hx hd hcs hgp x2
      have q1 : ((x.t.size : Int) == 0) = false := beq_eq_false_iff_ne.2 (by omega)
      have q2 : decide ((s.size : Int) < (G : Int) + (x.t.size : Int)) = false := by simp; omega
      have q3 : decide (x.k < 1) = false := by simp; omega
      have q4 : decide (3 < x.k) = false := by simp; omega
      go_wp2_with (go_at_call 11; go_must (refine (gap11 s _ _ (by omega) (by omega)).mono ?_); rintro e w' ⟨rfl, rfl⟩; rw [Int.toNat_natCast, HGP.out])
      go_quiet (fail)
      go_wp2_with fail
      go_roundw
      case rel => exact ⟨G + x.t.size, k + 1, n + nq, by go_num, by go_num, by omega, h3, rfl, HC7⟩
      case measure => simp [intOf]; omega
    · have hkl : k = l.length := by omega
      have hC := HX.out
      rw [hkl, List.drop_length] at hC
      have hgp := gp_gap s at_ hat
      have HGP := Lib.hid (show gp s at_ = s.size by rw [hgp]; exact hC)
      clear hC hgp hkl
      go_wp2_with (go_at_call 11; go_must (refine (gap11 s _ _ (by omega) (by omega)).mono ?_); rintro e w' ⟨rfl, rfl⟩; rw [Int.toNat_natCast, HGP.out])
      go_ret
      exact ⟨rfl, HB.out.trans (below_drewN' _ _ _)⟩
set_option maxRecDepth 100000 in
set_option maxHeartbeats 4000000 in
theorem covers_err (s : ByteArray) (w : World) (hs : s.size ≤ 3000) (hT : Tab w) (er off : Int) (hc : cut 0 (its s (gap s 0)) = some (er, off)) :
    Calls Tryd.prog 3 #[.string s] w fun e w' => e = .returned (.bool true) ∧ Below w.heap.size w w' := by
  have hp := hT.pos
  have hne : (er != 0) = true := by simpa using cut_ne 0 _ er off hc
  go_enter Tryd.func3, Tryd.ntmps3
  go_wp2_with fail
  refine (head_any w hT).mono ?_
  rintro e w1 ⟨rfl, b1⟩
  go_wp2_with fail
  refine (lex_err s w1 (by omega) (hT.below b1 hp) er off hc).mono ?_
  rintro e w2 ⟨rfl, b2⟩
  have HB := Lib.hid (b1.trans (b2.mono b1.size))
  clear b1 b2 hT hc
  go_wp2_with fail
  go_ret
  exact ⟨rfl, HB.out⟩
set_option maxRecDepth 100000 in
set_option maxHeartbeats 4000000 in
theorem covers_long (s : ByteArray) (w : World) (hs : ¬ s.size ≤ 3000) (_hm : s.size ≤ 2 ^ 63 - 1) (hT : Tab w) :
    Calls Tryd.prog 3 #[.string s] w fun e w' => e = .returned (.bool true) ∧ Below w.heap.size w w' := by
  go_enter Tryd.func3, Tryd.ntmps3
  go_wp2_with fail
  refine (head_any w hT).mono ?_
  rintro e w1 ⟨rfl, b1⟩
  clear hT
  go_wp2_with fail
  go_ret
  exact ⟨rfl, b1⟩
theorem covers_walk (s : ByteArray) (w : World) (hm : s.size ≤ maxLen) (hT : Tab w) :
    Calls Tryd.prog 3 #[.string s] w fun e w' => e = .returned (.bool true) ∧ Below w.heap.size w w' := by
  by_cases hs : s.size ≤ 3000
  · cases hc : cut 0 (its s (gap s 0)) with
    | none => exact covers_ok s w hs hT hc
    | some x => exact covers_err s w hs hT x.1 x.2 hc
  · exact covers_long s w hs hm hT
end Go.Proofs.YtaokedpcijmncaaDoor
