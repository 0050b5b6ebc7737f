/- The contract of 'line'; what gaps before and behind a text change. -/
import Derived.Test.YtaokedpcijmncaaDoorS
namespace Go.Proofs.YtaokedpcijmncaaDoor
open Go.RowKit Go.Maps

/-- A text without its line feeds. -/
def noNl (l : List UInt8) : List UInt8 := l.filter fun c => c != 10
theorem noNl_snoc (l : List UInt8) (c : UInt8) : noNl (l ++ [c]) = noNl l ++ if c = 10 then [] else [c] := by
  unfold noNl
  rw [List.filter_append]
  by_cases h : c = 10 <;> simp [h]
theorem noNl_len (l : List UInt8) : (noNl l).length ≤ l.length := List.length_filter_le _ _
def lineS (s : ByteArray) (k : Nat) : ByteArray := txt (noNl (s.data.toList.take k))
theorem lineS_size (s : ByteArray) (k : Nat) : (lineS s k).size ≤ s.size := by
  unfold lineS
  rw [txt_size]
  refine Nat.le_trans (noNl_len _) ?_
  have h0 : s.data.size = s.size := rfl
  simp; omega
theorem lineS_skip {s : ByteArray} {k : Nat} (h : k < s.size) (h10 : s[k].toNat = 10) : lineS s (k + 1) = lineS s k := by
  unfold lineS; rw [take_snoc s k h, noNl_snoc, if_pos ((ten_iff _).1 h10), List.append_nil]
theorem lineS_take {s : ByteArray} {k : Nat} (h : k < s.size) (h10 : s[k].toNat ≠ 10) : lineS s (k + 1) = lineS s k ++ s.extract k (k + 1) := by
  unfold lineS
  rw [take_snoc s k h, noNl_snoc, if_neg (fun e => h10 ((ten_iff _).2 e)), txt_sfx, sfx_cons h]
  apply ByteArray.ext
  simp [txt, ByteArray.data_append]

set_option maxHeartbeats 1000000 in
theorem line16 (s : ByteArray) (w : World) (hs : s.size ≤ 100000) :
    Calls Tryd.prog 16 #[.string s] w fun e w' => e = .returned (.string (lineS s s.size)) ∧ w = w' := by
  go_enter Tryd.func16, Tryd.ntmps16
  go_wp2_with fail
  go_loop [3, 4] (fun o i => ∃ k : Nat, k ≤ s.size ∧ i = .int .i64 k ∧ o = .string (lineS s k)) (fun _ i => s.size - (intOf i).toNat)
  case atStart => exact ⟨0, Nat.zero_le _, rfl, rfl⟩
  case round =>
    obtain ⟨k, hk, rfl, rfl⟩ := hrel
    by_cases hlt : k < s.size
    · have hsz := lineS_size s k
      by_cases h10 : s[k].toNat = 10
      · have HS := Lib.hid (lineS_skip hlt h10)
        have hb : ((s[k].toNat : Int) != 10) = false := by simp only [bne_eq_false_iff_eq]; omega
        clear h10
        generalize lineS s k = o at *
        go_wp2_with fail
        go_round
        case rel => exact ⟨k + 1, by omega, by go_num, by rw [HS.out]⟩
        case measure => simp [intOf]; omega
      · have HS := Lib.hid (lineS_take hlt h10)
        have hb : ((s[k].toNat : Int) != 10) = true := by simp only [bne_iff_ne, ne_eq]; omega
        have hez : (s.extract k (k + 1)).size = 1 := by rw [ByteArray.size_extract]; omega
        clear h10
        generalize lineS s k = o at *
        go_wp2_with fail
        go_round
        case rel => exact ⟨k + 1, by omega, by go_num, by rw [HS.out]⟩
        case measure => simp [intOf]; omega
    · have hkk : k = s.size := by omega
      go_wp2_with fail
      go_ret
      exact ⟨rfl, rfl⟩

theorem its_list (s : ByteArray) : its s (gap s 0) = lexL false 0 s.data.toList := its_sfx s 0 (Nat.zero_le _)
theorem gapF_noNl (v : List UInt8) : gapF true (noNl v) = (noNl v).length := by
  induction v with
  | nil => rfl
  | cons c v ih =>
    by_cases h : c = 10
    · have : noNl (c :: v) = noNl v := by simp [noNl, h]
      rw [this, ih]
    · have h1 : noNl (c :: v) = c :: noNl v := by simp [noNl, h]
      rw [h1, gapF, show (c != 10) = true by simpa using h, ih]; rfl
/-- Text behind which only gaps stand. -/
theorem lex_behind (u r : List UInt8) (hr : Sp r) (hg : ∀ c, gapF c r = r.length) : lexL false 0 (u ++ r) = lexL false 0 u := by
  obtain ⟨h1, h2⟩ := lex_app u.length false 0 u r (Nat.le_refl _) hr
  by_cases h : ∃ x ∈ lexL false 0 u, x.err ≠ 0
  · exact h2 h
  · obtain ⟨c, hc⟩ := h1 (fun x hx => Classical.byContradiction fun hn => h ⟨x, hx, hn⟩)
    rw [hc, lexL_end c _ r (by rw [hg c]; omega), List.append_nil]
/-- The first of the two texts. -/
def gapT (s : ByteArray) : ByteArray := ⟨#[9, 32, 10]⟩ ++ s ++ ⟨#[32]⟩
theorem gapT_its (s : ByteArray) : its (gapT s) (gap (gapT s) 0) = (its s (gap s 0)).map (shift 3) := by
  have hb : (gapT s).data.toList = 9 :: 32 :: 10 :: (s.data.toList ++ [32]) := by simp [gapT, ByteArray.data_append]
  rw [its_list, its_list, hb, lexL_space 0 9 _ (by decide), lexL_space _ 32 _ (by decide), lexL_space _ 10 _ (by decide)]
  rw [lexL_shift false 0 3]
  rw [lex_behind _ [32] (.inr (.inl (by decide))) (fun c => by cases c <;> decide)]
/-- The second one. -/
def gapC (s c : ByteArray) : ByteArray := s ++ ⟨#[10, 35]⟩ ++ lineS c c.size
theorem gapC_its (s c : ByteArray) : its (gapC s c) (gap (gapC s c) 0) = its s (gap s 0) := by
  have hb : (gapC s c).data.toList = s.data.toList ++ (10 :: 35 :: noNl (c.data.toList.take c.size)) := by simp [gapC, ByteArray.data_append, lineS, txt]
  rw [its_list, its_list, hb]
  refine lex_behind _ _ (.inr (.inl (by show kb 10 = 16; decide))) (fun b => ?_)
  have h1 : kb 10 = 16 := by decide
  have h2 : kb 35 = 32 := by decide
  have h3 : ¬ kb 35 = 16 := by decide
  have h4 : ((10 : UInt8) != 10) = false := rfl
  cases b
  · rw [gapF, if_pos h1, gapF, if_neg h3, if_pos h2, gapF_noNl]; simp
  · rw [gapF, h4, gapF, if_neg h3, if_pos h2, gapF_noNl]; simp
theorem mkI_at (p : Nat) (l : List UInt8) : (mkI p l).at_ = p := by
  unfold mkI
  split
  · split <;> rfl
  · split
    · split <;> rfl
    · split <;> rfl
theorem lexN_at (f : Nat) : ∀ (b : Bool) (p : Nat) (l : List UInt8) (x : Item), x ∈ lexN f b p l → (p : Int) ≤ x.at_ ∧ x.at_ ≤ p + l.length := by
  induction f with
  | zero => intro b p l x hx; simp [lexN] at hx
  | succ f ih =>
    intro b p l x hx
    rw [lexN] at hx
    have hg := gapF_le b l
    split at hx
    · split at hx
      · rename_i he
        have hl := mkI_len _ _ he
        have hl3 := hl.2.2
        simp only [List.length_drop] at hl3
        rcases List.mem_cons.1 hx with e | e
        · rw [e, mkI_at]; omega
        · have := ih _ _ _ x e
          simp only [List.length_drop] at this
          omega
      · rw [List.mem_singleton] at hx
        rw [hx, mkI_at]; omega
    · simp at hx
theorem cut_mem : ∀ (n : Nat) (l : List Item) (er off : Int), cut n l = some (er, off) → ∃ x ∈ l, off = x.at_
  | _, [], _, _, h => by cases h
  | n, y :: l, er, off, h => by
    unfold cut at h
    split at h
    · obtain ⟨x, hx, e⟩ := cut_mem (n + 1) l er off h
      exact ⟨x, List.mem_cons_of_mem _ hx, e⟩
    · simp only [Option.some.injEq, Prod.mk.injEq] at h
      exact ⟨y, by simp, h.2.symm⟩
theorem cut_off (s : ByteArray) (er off : Int) (h : cut 0 (its s (gap s 0)) = some (er, off)) : 0 ≤ off ∧ off ≤ s.size := by
  obtain ⟨x, hx, e⟩ := cut_mem 0 _ er off h
  rw [its_list] at hx
  have := lexN_at _ _ _ _ x hx
  have h0 : s.data.size = s.size := rfl
  rw [e]
  simp at this
  omega
end Go.Proofs.YtaokedpcijmncaaDoor
