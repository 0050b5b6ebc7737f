/- The contract of 'Joined'; what joined tokens lex to. -/
import Derived.Test.YtaokedpcijmncaaDoorT
namespace Go.Proofs.YtaokedpcijmncaaDoor
open Go.RowKit Go.Maps

/-- The texts of tokens, a blank behind each. -/
def joinL (l : List Item) : List UInt8 := l.flatMap fun x => x.t.data.toList ++ [32]
theorem joinL_cons (x : Item) (l : List Item) : joinL (x :: l) = x.t.data.toList ++ 32 :: joinL l := by simp [joinL]
def joinS (l : List Item) (k : Nat) : ByteArray := txt (joinL (l.take k))
theorem joinL_app (a b : List Item) : joinL (a ++ b) = joinL a ++ joinL b := by simp [joinL]
theorem joinS_step (l : List Item) (k : Nat) (x : Item) (h : l[k]? = some x) : joinS l (k + 1) = joinS l k ++ x.t ++ ⟨#[32]⟩ := by
  unfold joinS
  have hk : k < l.length := by
    apply Classical.byContradiction; intro hn
    rw [List.getElem?_eq_none (by omega)] at h; cases h
  have hx : l[k] = x := by rw [List.getElem?_eq_getElem hk] at h; simpa using h
  rw [List.take_succ_eq_append_getElem hk, joinL_app, hx]
  apply ByteArray.ext
  simp [txt, joinL, ByteArray.data_append]
theorem joinS_mono (l : List Item) (k : Nat) : (joinS l k).size ≤ (joinL l).length := by
  unfold joinS
  rw [txt_size]
  have : joinL l = joinL (l.take k) ++ joinL (l.drop k) := by rw [← joinL_app, List.take_append_drop]
  rw [this, List.length_append]; omega

set_option maxHeartbeats 1000000 in
theorem joined12 (B : Nat) (W : World) (v : Value) (l : List Item) (hl : l.length ≤ 100000) (hj : (joinL l).length ≤ 100000) (h : ToksAt B W v l) :
    Calls Tryd.prog 12 #[v] W fun e W' => e = .returned (.string (joinS l l.length)) ∧ W = W' := by
  obtain ⟨a, c, rfl, hc⟩ := h
  have HC := Lib.hid hc
  clear hc
  go_enter Tryd.func12, Tryd.ntmps12
  go_wp2_with fail
  go_loop [3, 4] (fun o i => ∃ k : Nat, k ≤ l.length ∧ i = .int .i64 k ∧ o = .string (joinS l k)) (fun _ i => l.length - (intOf i).toNat)
  case atStart => exact ⟨0, Nat.zero_le _, rfl, rfl⟩
  case round =>
    obtain ⟨k, hk, rfl, rfl⟩ := hrel
    by_cases hlt : k < l.length
    · have hx : l[k]? = some l[k] := List.getElem?_eq_getElem hlt
      have hs0 := joinS_mono l (k + 1)
      have hst := joinS_step l k _ hx
      have hs1 : (joinS l k).size + (l[k]).t.size + 1 ≤ 100000 := by
        rw [hst] at hs0
        simp only [ByteArray.size_append] at hs0
        have : (⟨#[32]⟩ : ByteArray).size = 1 := rfl
        omega
      have HS := Lib.hid hst
      obtain ⟨g, hg, rfl, hcs⟩ := HC.out (by intro h; rw [h] at hlt; simp at hlt)
      obtain ⟨x0, x1, x2, x3⟩ := hcs k _ hx
      generalize joinS l k = o at *
      generalize l[k] = x at *
      have hz : (⟨#[32]⟩ : ByteArray).size = 1 := rfl
      clear hcs hx x0 x2 x3 hs0 hst
      go_wp2_with fail
      go_round
      case rel => exact ⟨k + 1, by omega, by go_num, by rw [HS.out]⟩
      case measure => simp [intOf]; omega
    · have hkk : k = l.length := by omega
      go_wp2_with fail
      go_ret
      exact ⟨rfl, rfl⟩

theorem mkI_t (p : Nat) (l : List UInt8) (h : (mkI p l).err = 0) : (mkI p l).t = txt (l.take (mkI p l).t.size) ∧ (hk l = 1 ∨ hk l = 2 ∨ hk l = 8) := by
  have hlen : ∀ n, n ≤ l.length → (txt (l.take n)).size = n := fun n hn => by rw [txt_size, List.length_take]; omega
  have hne := (mkI_len p l h).1
  have hl : 1 ≤ l.length := by cases l with | nil => exact absurd rfl hne | cons c l => simp
  unfold mkI at h ⊢
  split at h
  · rename_i hk1
    rw [if_pos hk1]
    split at h
    · cases h
    · rename_i hc
      rw [if_neg hc]
      refine ⟨?_, .inl hk1⟩
      show txt _ = txt (l.take (txt (l.take _)).size)
      rw [hlen _ (run_le 7 l)]
  · rename_i hk1
    rw [if_neg hk1]
    split at h
    · rename_i hk2
      rw [if_pos hk2]
      split at h
      · cases h
      · rename_i hc
        rw [if_neg hc]
        refine ⟨?_, .inr (.inl hk2)⟩
        show txt _ = txt (l.take (txt (l.take _)).size)
        rw [hlen _ (numE_le l)]
    · rename_i hk2
      rw [if_neg hk2]
      split at h
      · rename_i hk8
        rw [if_pos hk8]
        refine ⟨?_, .inr (.inr hk8)⟩
        show txt _ = txt (l.take (txt (l.take _)).size)
        have h2 : (if twoL l then 2 else 1) ≤ l.length := by
          split
          · rename_i hx; exact two_len hx
          · exact hl
        rw [hlen _ h2]
      · cases h
theorem mkI_pos (p q : Nat) (l : List UInt8) : mkI q l = { mkI p l with at_ := q } := by
  unfold mkI
  split
  · split <;> rfl
  · split
    · split <;> rfl
    · split <;> rfl
/-- Two lists are alike. -/
def AlkL (l m : List Item) : Prop := m.length = l.length ∧ ∀ (i : Nat) (x : Item), l[i]? = some x → ∃ y, m[i]? = some y ∧ Alk x y
theorem join_lex (n : Nat) : ∀ (b : Bool) (p : Nat) (u : List UInt8) (q : Nat), u.length ≤ n → (∀ x ∈ lexL b p u, x.err = 0) →
    AlkL (lexL b p u) (lexL false q (joinL (lexL b p u))) ∧ (∀ x ∈ lexL false q (joinL (lexL b p u)), x.err = 0) ∧ (joinL (lexL b p u)).length ≤ 2 * u.length ∧ (lexL b p u).length ≤ u.length := by
  induction n with
  | zero =>
    intro b p u q hu _
    obtain rfl : u = [] := List.eq_nil_of_length_eq_zero (by omega)
    have h0 : lexL b p [] = [] := lexL_end b p [] (by simp)
    rw [h0]
    have h1 : lexL false q (joinL []) = [] := lexL_end _ _ _ (by simp [joinL])
    rw [h1]
    exact ⟨⟨rfl, by simp⟩, by simp, by simp [joinL], by simp⟩
  | succ n ih =>
    intro b p u q hu hall
    by_cases hg : gapF b u < u.length
    · by_cases he : (mkI (p + gapF b u) (u.drop (gapF b u))).err = 0
      · have e1 := lexL_go b p u hg he
        have hl := mkI_len _ _ he
        have ht := mkI_t _ _ he
        have hpos := mkI_pos (p + gapF b u) q (u.drop (gapF b u))
        rw [e1] at hall
        have hlm : (u.drop (gapF b u)).length = u.length - gapF b u := List.length_drop
        rw [e1]
        generalize hm : u.drop (gapF b u) = m at *
        generalize hx : mkI (p + gapF b u) m = x at *
        have hl3 := hl.2.2
        have hlr : (m.drop x.t.size).length ≤ n := by rw [List.length_drop]; omega
        obtain ⟨i1, i2, i3, i4⟩ := ih false (p + gapF b u + x.t.size) (m.drop x.t.size) (q + x.t.size + 1) hlr (fun y hy => hall y (List.mem_cons_of_mem _ hy))
        rw [List.length_drop] at i3 i4
        generalize hR : lexL false (p + gapF b u + x.t.size) (m.drop x.t.size) = R at *
        have htl : x.t.data.toList = m.take x.t.size := by
          have := congrArg (fun a : ByteArray => a.data.toList) ht.1
          simpa [txt] using this
        have hsz : (m.take x.t.size).length = x.t.size := by rw [List.length_take]; omega
        have hne : m.take x.t.size ≠ [] := by intro e; rw [e] at hsz; simp at hsz; omega
        rw [joinL_cons, htl]
        -- the token of the joined text
        have hmk : mkI q (m.take x.t.size ++ 32 :: joinL R) = { x with at_ := q } := by
          have hb : Bd (m.drop x.t.size) (32 :: joinL R) := .inl (.inr (.inl (by show kb 32 = 16; decide)))
          have := mkI_bd (u := m.take x.t.size) (r := m.drop x.t.size) (r' := 32 :: joinL R) q hne hb (by rw [List.take_append_drop, hpos]; exact he) (by rw [List.take_append_drop, hpos, hsz]; exact Nat.le_refl _)
          rw [this, List.take_append_drop, hpos]
        have hk8 : hk (m.take x.t.size ++ 32 :: joinL R) = hk m := by
          have := hk_app (u := m.take x.t.size) (r := m.drop x.t.size) (r' := 32 :: joinL R) hne
          rw [List.take_append_drop] at this
          exact this
        have hg0 : gapF false (m.take x.t.size ++ 32 :: joinL R) = 0 := gapF_stop _ (by rw [hk8]; rcases ht.2 with h | h | h <;> (rw [h]; decide)) (by rw [hk8]; rcases ht.2 with h | h | h <;> (rw [h]; decide))
        have hlt : gapF false (m.take x.t.size ++ 32 :: joinL R) < (m.take x.t.size ++ 32 :: joinL R).length := by rw [hg0]; simp; omega
        have hgo := lexL_go false q _ hlt (by rw [hg0, Nat.add_zero, List.drop_zero, hmk]; exact he)
        rw [hg0, Nat.add_zero, List.drop_zero, hmk] at hgo
        have hdr : (m.take x.t.size ++ 32 :: joinL R).drop x.t.size = 32 :: joinL R := by
          rw [List.drop_append, hsz, Nat.sub_self, List.drop_zero, List.drop_of_length_le (by omega)]; rfl
        have hgo2 : lexL false q (m.take x.t.size ++ 32 :: joinL R) = { x with at_ := q } :: lexL false (q + x.t.size + 1) (joinL R) := by
          rw [hgo]
          show _ :: lexL false (q + x.t.size) ((m.take x.t.size ++ 32 :: joinL R).drop x.t.size) = _
          rw [hdr, lexL_space _ 32 _ (by decide)]
        rw [hgo2]
        refine ⟨⟨by simp [i1.1], ?_⟩, ?_, ?_, ?_⟩
        · intro i y hy
          cases i with
          | zero => simp at hy; subst hy; exact ⟨_, rfl, rfl, rfl, rfl⟩
          | succ i => simpa using i1.2 i y (by simpa using hy)
        · intro y hy
          rcases List.mem_cons.1 hy with e | e
          · rw [e]; exact he
          · exact i2 y e
        · rw [List.length_append, hsz, List.length_cons]; omega
        · rw [List.length_cons]; omega
      · have e1 := lexL_bad b p u hg he
        rw [e1] at hall
        exact absurd (hall _ (by simp)) he
    · have h0 := lexL_end b p u hg
      rw [h0]
      have h1 : lexL false q (joinL []) = [] := lexL_end _ _ _ (by simp [joinL])
      rw [h1]
      exact ⟨⟨rfl, by simp⟩, by simp, by simp [joinL], by simp⟩
end Go.Proofs.YtaokedpcijmncaaDoor
