/- The walk of 'LexerGaps'. -/
import Derived.Test.YtaokedpcijmncaaDoorT
namespace Go.Proofs.YtaokedpcijmncaaDoor
open Go.RowKit Go.Maps

theorem alk_shift (a : Nat) (l : List Item) : ∀ (i : Nat) (x : Item), l[i]? = some x → ∃ y, (l.map (shift a))[i]? = some y ∧ Alk x y := by
  intro i x hx
  exact ⟨shift a x, by rw [List.getElem?_map, hx]; rfl, rfl, rfl, rfl⟩
theorem gapT_size (s : ByteArray) : (gapT s).size = s.size + 4 := by
  simp only [gapT, ByteArray.size_append]
  have h1 : (⟨#[9, 32, 10]⟩ : ByteArray).size = 3 := rfl
  have h2 : (⟨#[32]⟩ : ByteArray).size = 1 := rfl
  omega
theorem gapC_size (s c : ByteArray) : (gapC s c).size ≤ s.size + 2 + c.size := by
  simp only [gapC, ByteArray.size_append]
  have h1 : (⟨#[10, 35]⟩ : ByteArray).size = 2 := rfl
  have := lineS_size c c.size
  omega

set_option maxRecDepth 100000 in
set_option maxHeartbeats 4000000 in
theorem gaps_ok (s c : ByteArray) (w : World) (hs : s.size ≤ 3000) (hc : c.size ≤ 1000) (hT : Tab w) (hcut : cut 0 (its s (gap s 0)) = none) :
    Calls Tryd.prog 8 #[.string s, .string c] w fun e w' => e = .returned (.bool true) ∧ Below w.heap.size w w' := by
  have hp := hT.pos
  have hlen : (its s (gap s 0)).length ≤ 6000 := Nat.le_trans (items_len s s.size _ (by omega)) (by omega)
  have HI1 := Lib.hid (gapT_its s)
  have HI2 := Lib.hid (gapC_its s c)
  have HS1 := Lib.hid (gapT_size s)
  have HS2 := Lib.hid (gapC_size s c)
  have HC := Lib.hid hcut
  have hz1 : (⟨#[9, 32, 10]⟩ : ByteArray).size = 3 := rfl
  have hz2 : (⟨#[32]⟩ : ByteArray).size = 1 := rfl
  have hz3 : (⟨#[10, 35]⟩ : ByteArray).size = 2 := rfl
  have hz4 := lineS_size c c.size
  clear hcut
  go_enter Tryd.func8, Tryd.ntmps8
  go_wp2_with fail
  refine (head_any w hT).mono ?_
  rintro e w1 ⟨rfl, b1⟩
  have hT1 := hT.below b1 hp
  go_wp2_with fail
  refine (lex_ok s w1 (by omega) hT1 _ rfl HC.out).mono ?_
  rintro e w2 ⟨v2, rfl, t2, b2⟩
  have hT2 := hT1.below b2 hT1.pos
  go_wp2_with fail
  refine (lex_ok (gapT s) w2 (by rw [HS1.out]; omega) hT2 _ HI1.out (by rw [cut_shift, HC.out]; rfl)).mono ?_
  rintro e w3 ⟨v3, rfl, t3, b3⟩
  have hT3 := hT2.below b3 hT2.pos
  go_wp2_with fail
  refine (line16 c w3 (by omega)).mono ?_
  rintro e w4 ⟨rfl, rfl⟩
  go_wp2_with fail
  refine (lex_ok (gapC s c) w3 (by have := HS2.out; omega) hT3 _ HI2.out HC.out).mono ?_
  rintro e w5 ⟨v5, rfl, t5, b5⟩
  generalize its s (gap s 0) = l at *
  have T2 := (t2.below (b3.trans (b5.mono b3.size)) (Nat.le_refl _)).mono (Nat.le_trans b3.size b5.size)
  have T3 := (t3.below b5 (Nat.le_refl _)).mono b5.size
  have HB := Lib.hid (((b1.trans (b2.mono b1.size)).trans (b3.mono (Nat.le_trans b1.size b2.size))).trans (b5.mono (Nat.le_trans (Nat.le_trans b1.size b2.size) b3.size)))
  have HT2 := Lib.hid T2
  have HT3 := Lib.hid T3
  have HT5 := Lib.hid t5
  clear T2 T3 t2 t3 t5 b1 b2 b3 b5 hT hT1 hT2 hT3 hz1 hz2 hz3 hz4
  go_wp2_with (first
    | (go_at_call 13; go_must (refine (alike_true _ _ _ _ _ l (l.map (shift 3)) (by omega) (by simp) (alk_shift 3 l) HT2.out HT3.out).mono ?_); rintro e w' ⟨rfl, n, rfl⟩)
    | (go_at_call 14; go_must (refine (same_true _ _ _ _ _ l (by omega) (HT2.out.drewN n) (HT5.out.drewN n)).mono ?_); rintro e w' ⟨rfl, m, rfl⟩))
  go_ret
  exact ⟨rfl, HB.out.trans (below_drewN' _ _ (n + m))⟩

set_option maxRecDepth 100000 in
set_option maxHeartbeats 4000000 in
theorem gaps_err (s c : ByteArray) (w : World) (hs : s.size ≤ 3000) (hc : c.size ≤ 1000) (hT : Tab w) (er off : Int) (hcut : cut 0 (its s (gap s 0)) = some (er, off)) :
    Calls Tryd.prog 8 #[.string s, .string c] w fun e w' => e = .returned (.bool true) ∧ Below w.heap.size w w' := by
  have hp := hT.pos
  have HI1 := Lib.hid (gapT_its s)
  have HI2 := Lib.hid (gapC_its s c)
  have HS1 := Lib.hid (gapT_size s)
  have HS2 := Lib.hid (gapC_size s c)
  have HC := Lib.hid hcut
  have hz1 : (⟨#[9, 32, 10]⟩ : ByteArray).size = 3 := rfl
  have hz2 : (⟨#[32]⟩ : ByteArray).size = 1 := rfl
  have hz3 : (⟨#[10, 35]⟩ : ByteArray).size = 2 := rfl
  have hz4 := lineS_size c c.size
  obtain ⟨ho0, ho1⟩ := cut_off s er off hcut
  have hne : (er == 0) = false := beq_eq_false_iff_ne.2 (cut_ne 0 _ er off hcut)
  clear hcut
  go_enter Tryd.func8, Tryd.ntmps8
  go_wp2_with fail
  refine (head_any w hT).mono ?_
  rintro e w1 ⟨rfl, b1⟩
  have hT1 := hT.below b1 hp
  go_wp2_with fail
  refine (lex_err s w1 (by omega) hT1 er off HC.out).mono ?_
  rintro e w2 ⟨rfl, b2⟩
  have hT2 := hT1.below b2 hT1.pos
  go_wp2_with fail
  refine (lex_err (gapT s) w2 (by rw [HS1.out]; omega) hT2 er (off + 3) (by rw [HI1.out, cut_shift, HC.out]; rfl)).mono ?_
  rintro e w3 ⟨rfl, b3⟩
  have hT3 := hT2.below b3 hT2.pos
  go_wp2_with fail
  refine (line16 c w3 (by omega)).mono ?_
  rintro e w4 ⟨rfl, rfl⟩
  go_wp2_with fail
  refine (lex_err (gapC s c) w3 (by have := HS2.out; omega) hT3 er off (by rw [HI2.out]; exact HC.out)).mono ?_
  rintro e w5 ⟨rfl, b5⟩
  have HB := Lib.hid (((b1.trans (b2.mono b1.size)).trans (b3.mono (Nat.le_trans b1.size b2.size))).trans (b5.mono (Nat.le_trans (Nat.le_trans b1.size b2.size) b3.size)))
  clear b1 b2 b3 b5 hT hT1 hT2 hT3 hz1 hz2 hz3 hz4
  go_wp2_with (first
    | (go_at_call 13; go_must (refine (alike_true w5.heap.size w5.heap.size _ _ _ [] [] (by simp) rfl (by simp) (ToksAt.nil _ _) (ToksAt.nil _ _)).mono ?_); rintro e w' ⟨rfl, n, rfl⟩)
    | (go_at_call 14; go_must (refine (same_true w5.heap.size w5.heap.size _ _ _ [] (by simp) (ToksAt.nil _ _) (ToksAt.nil _ _)).mono ?_); rintro e w' ⟨rfl, m, rfl⟩))
  go_ret
  exact ⟨rfl, HB.out.trans (below_drewN' _ _ (n + m))⟩

set_option maxRecDepth 100000 in
set_option maxHeartbeats 4000000 in
theorem gaps_long (s c : ByteArray) (w : World) (h : ¬ (s.size ≤ 3000 ∧ c.size ≤ 1000)) (_hs : s.size ≤ 2 ^ 63 - 1) (_hc : c.size ≤ 2 ^ 63 - 1) (hT : Tab w) :
    Calls Tryd.prog 8 #[.string s, .string c] w fun e w' => e = .returned (.bool true) ∧ Below w.heap.size w w' := by
  by_cases h1 : s.size ≤ 3000
  · have h2 : ¬ c.size ≤ 1000 := fun h2 => h ⟨h1, h2⟩
    clear h
    go_enter Tryd.func8, Tryd.ntmps8
    go_wp2_with fail
    refine (head_any w hT).mono ?_
    rintro e w1 ⟨rfl, b1⟩
    clear hT
    go_wp2_with fail
    go_ret
    exact ⟨rfl, b1⟩
  · clear h
    go_enter Tryd.func8, Tryd.ntmps8
    go_wp2_with fail
    refine (head_any w hT).mono ?_
    rintro e w1 ⟨rfl, b1⟩
    clear hT
    go_wp2_with fail
    go_ret
    exact ⟨rfl, b1⟩
theorem gaps_walk (s c : ByteArray) (w : World) (hm : s.size ≤ maxLen) (hmc : c.size ≤ maxLen) (hT : Tab w) :
    Calls Tryd.prog 8 #[.string s, .string c] w fun e w' => e = .returned (.bool true) ∧ Below w.heap.size w w' := by
  by_cases h : s.size ≤ 3000 ∧ c.size ≤ 1000
  · cases hc : cut 0 (its s (gap s 0)) with
    | none => exact gaps_ok s c w h.1 h.2 hT hc
    | some x => exact gaps_err s c w h.1 h.2 hT x.1 x.2 hc
  · exact gaps_long s c w h hm hmc hT
end Go.Proofs.YtaokedpcijmncaaDoor
