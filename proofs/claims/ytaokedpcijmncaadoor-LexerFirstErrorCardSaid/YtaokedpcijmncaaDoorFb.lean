/- The walk of 'LexerFirstError'. -/
import Derived.Test.YtaokedpcijmncaaDoorFa
namespace Go.Proofs.YtaokedpcijmncaaDoor
open Go.RowKit Go.Maps

theorem toList_size (s : ByteArray) : s.data.toList.length = s.size := rfl
theorem ext0 (s : ByteArray) (k : Nat) : (s.extract 0 k).data.toList = s.data.toList.take k := by
  have := sfx_extract s 0 k
  rw [Nat.zero_add] at this
  rw [this]; rfl
/-- The first error, and what the two other texts lex to. -/
theorem first_facts (s o : ByteArray) (hs : s.size ≤ 3000) (er off : Int) (hcut : cut 0 (its s (gap s 0)) = some (er, off)) :
    ∃ k : Nat, off = k ∧ k < s.size ∧ cut 0 (its (s.extract 0 k) (gap (s.extract 0 k) 0)) = none ∧ cut 0 (its (s.extract 0 (k + 17) ++ o) (gap (s.extract 0 (k + 17) ++ o) 0)) = some (er, (k : Int)) := by
  have hlen := items_len s s.size (gap s 0) (by omega)
  have hbad : ∃ x ∈ lexL false 0 s.data.toList, x.err ≠ 0 := by
    apply Classical.byContradiction; intro hn
    have := cut_none 0 (its s (gap s 0)) (fun x hx => Classical.byContradiction fun h => hn ⟨x, by rw [← its_list]; exact hx, h⟩) (by omega)
    rw [this] at hcut; cases hcut
  obtain ⟨pre, k, h1, h2, h3, h4, h5, h6, h7, h8⟩ := first_err _ false 0 s.data.toList (Nat.le_refl _) hbad
  rw [Nat.zero_add] at h3 h6 h8
  rw [← its_list] at h6
  have hpl : pre.length < 6000 := by
    have := congrArg List.length h6
    rw [List.length_append] at this
    simp at this; omega
  have herr : ∀ x : Item, errOf pre.length x = x.err := fun x => by unfold errOf; rw [if_neg (by omega)]
  have hc := cut_some 0 pre (mkI k (s.data.toList.drop k)) [] h2 (by omega) (by rw [Nat.zero_add, herr]; exact h3)
  rw [Nat.zero_add, herr, ← h6, hcut, mkI_at] at hc
  simp only [Option.some.injEq, Prod.mk.injEq] at hc
  obtain ⟨hc1, hc2⟩ := hc
  have hks : k < s.size := h1
  refine ⟨k, hc2, hks, ?_, ?_⟩
  · rw [its_list, ext0, h7]
    exact cut_none 0 pre h2 (by omega)
  · obtain ⟨c, m, hm⟩ : ∃ c m, s.data.toList.drop k = c :: m := by
      cases hd : s.data.toList.drop k with
      | nil => have := congrArg List.length hd; rw [List.length_drop, toList_size] at this; simp at this; omega
      | cons c m => exact ⟨c, m, rfl⟩
    have hb : (s.extract 0 (k + 17) ++ o).data.toList = s.data.toList.take k ++ c :: (m.take 16 ++ o.data.toList) := by
      have : (s.extract 0 (k + 17) ++ o).data.toList = (s.extract 0 (k + 17)).data.toList ++ o.data.toList := by simp [ByteArray.data_append]
      rw [this, ext0, List.take_add, hm]
      simp
    have h17 := bad17 k (c :: m) o.data.toList (by rw [← hm]; exact h3) (by simp)
    have hcm : (c :: m).take 17 ++ o.data.toList = c :: (m.take 16 ++ o.data.toList) := rfl
    rw [hcm] at h17
    rw [hm] at h4 h5 h3
    have hg0 : gapF false (c :: (m.take 16 ++ o.data.toList)) = 0 := gapF_stop _ h4 h5
    have hbd := lexL_bad false k (c :: (m.take 16 ++ o.data.toList)) (by rw [hg0]; simp) (by rw [hg0, Nat.add_zero, List.drop_zero, h17]; exact h3)
    rw [hg0, Nat.add_zero, List.drop_zero] at hbd
    rw [its_list, hb, h8 c m _ hm, hbd]
    have hc3 := cut_some 0 pre (mkI k (c :: (m.take 16 ++ o.data.toList))) [] h2 (by omega) (by rw [Nat.zero_add, herr, h17]; exact h3)
    rw [Nat.zero_add, herr, mkI_at, h17, ← hm, ← hc1] at hc3
    exact hc3

set_option maxRecDepth 100000 in
set_option maxHeartbeats 4000000 in
theorem first_bad (s o : ByteArray) (w : World) (hs : s.size ≤ 3000) (ho : o.size ≤ 3000) (hT : Tab w) (er off : Int) (hcut : cut 0 (its s (gap s 0)) = some (er, off)) :
    Calls Tryd.prog 6 #[.string s, .string o] w fun e w' => e = .returned (.bool true) ∧ Below w.heap.size w w' := by
  have hp := hT.pos
  have hne : (er == 0) = false := beq_eq_false_iff_ne.2 (cut_ne 0 _ er off hcut)
  obtain ⟨k, rfl, hk, hA, hB⟩ := first_facts s o hs er off hcut
  have HA := Lib.hid hA
  have HBB := Lib.hid hB
  have HC := Lib.hid hcut
  have hz1 : (s.extract 0 k).size ≤ 3000 := by rw [ByteArray.size_extract]; omega
  have hz2 : (s.extract 0 (k + 17)).size ≤ 3000 := by rw [ByteArray.size_extract]; omega
  have hmin : min s.size (k + 17) ≤ s.size := Nat.min_le_left _ _
  clear hA hB hcut
  go_enter Tryd.func6, Tryd.ntmps6
  go_wp2_with fail
  refine (head_any w hT).mono ?_
  rintro e w1 ⟨rfl, b1⟩
  have hT1 := hT.below b1 hp
  go_wp2_with fail
  refine (lex_err s w1 (by omega) hT1 er k HC.out).mono ?_
  rintro e w2 ⟨rfl, b2⟩
  have hT2 := hT1.below b2 hT1.pos
  go_wp2_with fail
  refine (lex_ok (s.extract 0 k) w2 (by omega) hT2 _ rfl HA.out).mono ?_
  rintro e w3 ⟨v3, rfl, t3, b3⟩
  have hT3 := hT2.below b3 hT2.pos
  clear t3
  go_wp2_with fail
  have hx : s.extract 0 (min (s.size : Int) ((k : Int) + 17)).toNat = s.extract 0 (k + 17) := by
    rw [show (min (s.size : Int) ((k : Int) + 17)).toNat = min s.size (k + 17) by omega]
    apply ByteArray.ext
    apply Array.ext'
    rw [ext0, ext0]
    by_cases h : s.size ≤ k + 17
    · rw [Nat.min_eq_left h, List.take_of_length_le (by rw [toList_size]; exact Nat.le_refl _), List.take_of_length_le (by rw [toList_size]; exact h)]
    · rw [Nat.min_eq_right (by omega)]
  rw [hx]
  refine (lex_err (s.extract 0 (k + 17) ++ o) w3 (by rw [ByteArray.size_append]; omega) hT3 er k HBB.out).mono ?_
  rintro e w4 ⟨rfl, b4⟩
  have HB := Lib.hid (((b1.trans (b2.mono b1.size)).trans (b3.mono (Nat.le_trans b1.size b2.size))).trans (b4.mono (Nat.le_trans (Nat.le_trans b1.size b2.size) b3.size)))
  clear b1 b2 b3 b4 hT hT1 hT2 hT3 hx hmin
  go_wp2_with fail
  go_ret
  exact ⟨rfl, HB.out⟩
set_option maxRecDepth 100000 in
set_option maxHeartbeats 4000000 in
theorem first_none (s o : ByteArray) (w : World) (hs : s.size ≤ 3000) (ho : o.size ≤ 3000) (hT : Tab w) (hcut : cut 0 (its s (gap s 0)) = none) :
    Calls Tryd.prog 6 #[.string s, .string o] w fun e w' => e = .returned (.bool true) ∧ Below w.heap.size w w' := by
  have hp := hT.pos
  go_enter Tryd.func6, Tryd.ntmps6
  go_wp2_with fail
  refine (head_any w hT).mono ?_
  rintro e w1 ⟨rfl, b1⟩
  go_wp2_with fail
  refine (lex_ok s w1 (by omega) (hT.below b1 hp) _ rfl hcut).mono ?_
  rintro e w2 ⟨v2, rfl, t2, b2⟩
  have HB := Lib.hid (b1.trans (b2.mono b1.size))
  clear b1 b2 hT hcut t2
  go_wp2_with fail
  go_ret
  exact ⟨rfl, HB.out⟩
set_option maxRecDepth 100000 in
set_option maxHeartbeats 4000000 in
theorem first_long (s c : ByteArray) (w : World) (h : ¬ (s.size ≤ 3000 ∧ c.size ≤ 3000)) (_hs : s.size ≤ 2 ^ 63 - 1) (_hc : c.size ≤ 2 ^ 63 - 1) (hT : Tab w) :
    Calls Tryd.prog 6 #[.string s, .string c] w fun e w' => e = .returned (.bool true) ∧ Below w.heap.size w w' := by
  by_cases h1 : s.size ≤ 3000
  · have h2 : ¬ c.size ≤ 3000 := fun h2 => h ⟨h1, h2⟩
    clear h
    go_enter Tryd.func6, Tryd.ntmps6
    go_wp2_with fail
    refine (head_any w hT).mono ?_
    rintro e w1 ⟨rfl, b1⟩
    clear hT
    go_wp2_with fail
    go_ret
    exact ⟨rfl, b1⟩
  · clear h
    go_enter Tryd.func6, Tryd.ntmps6
    go_wp2_with fail
    refine (head_any w hT).mono ?_
    rintro e w1 ⟨rfl, b1⟩
    clear hT
    go_wp2_with fail
    go_ret
    exact ⟨rfl, b1⟩
theorem first_walk (s c : ByteArray) (w : World) (hm : s.size ≤ maxLen) (hmc : c.size ≤ maxLen) (hT : Tab w) :
    Calls Tryd.prog 6 #[.string s, .string c] w fun e w' => e = .returned (.bool true) ∧ Below w.heap.size w w' := by
  by_cases h : s.size ≤ 3000 ∧ c.size ≤ 3000
  · cases hc : cut 0 (its s (gap s 0)) with
    | none => exact first_none s c w h.1 h.2 hT hc
    | some x => exact first_bad s c w h.1 h.2 hT x.1 x.2 hc
  · exact first_long s c w h hm hmc hT
end Go.Proofs.YtaokedpcijmncaaDoor
