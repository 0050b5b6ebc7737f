/- The walk of 'UnitsBase'. -/
import Derived.Test.YtbmmmhjgidffpaaDoorO
namespace Go.Proofs.YtbmmmhjgidffpaaDoor
open Go.RowKit

theorem tmod5_bd (n : Int) : -500000000 ≤ n.tmod 500000001 ∧ n.tmod 500000001 ≤ 500000000 := by
  by_cases h : 0 ≤ n
  · rw [Int.tmod_eq_emod_of_nonneg h]; omega
  · have : n.tmod 500000001 = -((-n) % 500000001) := by rw [← Int.tmod_eq_emod_of_nonneg (by omega), Int.neg_tmod, Int.neg_neg]
    omega
set_option maxRecDepth 100000 in
set_option maxHeartbeats 8000000 in
theorem base_walk (c x y : Int) (w : World) (hT : Tab w) (wc : (Lit.int .u8 c).wf = true) (wx : (Lit.int .i32 x).wf = true) (wy : (Lit.int .i32 y).wf = true) :
    Calls Tryd.prog 4 #[.int .u8 c, .int .i32 x, .int .i32 y] w fun e w' => e = .returned (.bool true) ∧ Below w.heap.size w w' := by
  have HT0 := Lib.hid hT
  have HB0 := Lib.hid (Below.refl w.heap.size w)
  have bx := i32_bd wx
  have by_ := i32_bd wy
  obtain ⟨bx1, bx2⟩ := bx
  obtain ⟨by1, by2⟩ := by_
  have hx := tmod5_bd x
  have hy := tmod5_bd y
  obtain ⟨X, hX⟩ : ∃ X, x.tmod 500000001 = X := ⟨_, rfl⟩
  obtain ⟨Y, hY⟩ : ∃ Y, y.tmod 500000001 = Y := ⟨_, rfl⟩
  rw [hX] at hx
  rw [hY] at hy
  obtain ⟨hx1, hx2⟩ := hx
  obtain ⟨hy1, hy2⟩ := hy
  clear wx wy
  go_enter Tryd.func4, Tryd.ntmps4
  go_wp2_with fail
  refine (head_any _ HT0.out).mono ?_
  rintro e u1 ⟨rfl, b1⟩
  have HT1 := Lib.hid (HT0.out.below b1 HT0.out.pos)
  have HB1 := Lib.hid (keep2 b1 HB0.out)
  clear b1 HT0 HB0
  go_wp2_with fail
  refine (unit24_any c _ wc).mono ?_
  rintro e u2 ⟨i, hi, rfl, b2⟩
  have HT2 := Lib.hid (HT1.out.below b2 HT1.out.pos)
  have HB2 := Lib.hid (keep2 b2 HB1.out)
  clear b2 HT1 HB1
  have hF := tF_pos _ (rk_lt i)
  have HX := Lib.hid (base_of _ (rk_lt i) X (by omega) (by omega))
  have HY := Lib.hid (base_of _ (rk_lt i) Y (by omega) (by omega))
  have HS := Lib.hid (base_of _ (rk_lt i) (X + Y) (by omega) (by omega))
  have HO := Lib.hid (base_of _ (rk_lt i) 1 (by omega) (by omega))
  generalize tF (rk i) = F at *
  generalize tD (rk i) = D at *
  generalize tN (rk i) = N at *
  obtain ⟨hF1, hF2⟩ := hF
  have hm1 := mul_in X F (by omega) (by omega) hF1 hF2
  have hm2 := mul_in Y F (by omega) (by omega) hF1 hF2
  obtain ⟨hm11, hm12⟩ := hm1
  obtain ⟨hm21, hm22⟩ := hm2
  clear hi wc
  go_wp2_with fail
  refine (q_any _ _ _).mono ?_
  rintro e u3 ⟨rfl, b3⟩
  have HT3 := Lib.hid (HT2.out.below b3 HT2.out.pos)
  have HB3 := Lib.hid (keep2 b3 HB2.out)
  clear b3 HT2 HB2
  go_wp2_with fail
  refine (base12_any X N _ HT3.out).mono ?_
  rintro e u4 ⟨rfl, b4⟩
  have HT4 := Lib.hid (HT3.out.below b4 HT3.out.pos)
  have HB4 := Lib.hid (keep2 b4 HB3.out)
  clear b4 HT3 HB3
  rw [HX.out.1, HX.out.2.1, HX.out.2.2]
  go_wp2_with fail
  refine (q_any _ _ _).mono ?_
  rintro e u5 ⟨rfl, b5⟩
  have HT5 := Lib.hid (HT4.out.below b5 HT4.out.pos)
  have HB5 := Lib.hid (keep2 b5 HB4.out)
  clear b5 HT4 HB4
  go_wp2_with fail
  refine (base12_any Y N _ HT5.out).mono ?_
  rintro e u6 ⟨rfl, b6⟩
  have HT6 := Lib.hid (HT5.out.below b6 HT5.out.pos)
  have HB6 := Lib.hid (keep2 b6 HB5.out)
  clear b6 HT5 HB5
  rw [HY.out.1, HY.out.2.1, HY.out.2.2]
  go_wp2_with fail
  refine (q_any _ _ _).mono ?_
  rintro e u7 ⟨rfl, b7⟩
  have HT7 := Lib.hid (HT6.out.below b7 HT6.out.pos)
  have HB7 := Lib.hid (keep2 b7 HB6.out)
  clear b7 HT6 HB6
  go_wp2_with fail
  refine (base12_any (X + Y) N _ HT7.out).mono ?_
  rintro e u8 ⟨rfl, b8⟩
  have HT8 := Lib.hid (HT7.out.below b8 HT7.out.pos)
  have HB8 := Lib.hid (keep2 b8 HB7.out)
  clear b8 HT7 HB7
  rw [HS.out.1, HS.out.2.1, HS.out.2.2]
  rw [Int.add_mul]
  go_wp2_with fail
  refine (q_any _ _ _).mono ?_
  rintro e u9 ⟨rfl, b9⟩
  have HT9 := Lib.hid (HT8.out.below b9 HT8.out.pos)
  have HB9 := Lib.hid (keep2 b9 HB8.out)
  clear b9 HT8 HB8
  go_wp2_with fail
  refine (base12_any 1 N _ HT9.out).mono ?_
  rintro e u10 ⟨rfl, b10⟩
  have HT10 := Lib.hid (HT9.out.below b10 HT9.out.pos)
  have HB10 := Lib.hid (keep2 b10 HB9.out)
  clear b10 HT9 HB9
  rw [HO.out.1, HO.out.2.1, HO.out.2.2]
  rw [Int.one_mul]
  go_wp2_with fail
  go_ret
  exact ⟨rfl, HB10.out⟩
end Go.Proofs.YtbmmmhjgidffpaaDoor
