/- The walk of 'UnitsEnergy'. -/
import Derived.Test.YtbmmmhjgidffpaaDoorK
import Derived.OpenShut
namespace Go.Proofs.YtbmmmhjgidffpaaDoor
open Go.RowKit

theorem gF_mk {t1 : Int} {s1 : ByteArray} {t2 : Int} {s2 : ByteArray} (a : bE t1 s1 = 0 ∧ bE t2 s2 = 0) (d : bD t1 s1 = 4 ∧ bD t2 s2 = 3) (h1 : inB (bV t1 s1) (-1000000000) 1000000000 = true) (h2 : inB (bV t2 s2) 0 1000000000 = true) : gF t1 s1 t2 s2 = 0 := by
  unfold gF gOk gIn
  rw [if_pos (aE_zero.2 a), d.1, d.2, h1, h2]
  rfl
theorem inB_mk {n lo hi : Int} (h1 : lo ≤ n) (h2 : n ≤ hi) : inB n lo hi = true := by unfold inB; simp [h1, h2]
theorem prod_bd (p t : Int) (h1 : 0 ≤ p) (h2 : p ≤ 1000000) (h3 : 0 ≤ t) (h4 : t ≤ 1000000) : 0 ≤ p * t ∧ p * t ≤ 1000000000000 := by
  refine ⟨Int.mul_nonneg h1 h3, ?_⟩
  have h5 : p * t ≤ 1000000 * t := Int.mul_le_mul_of_nonneg_right h2 h3
  omega
theorem nE_small (v : Int) (h1 : 0 ≤ v) (h2 : v ≤ 1000000000) : nE 5 v = 0 := by
  have hb : bx 5 < 11 := by decide
  have hk := tF_pos _ (cK_lt (v := v) hb)
  have ht := (tdiv_le v (tF (cK 5 v)) hk.1).1 h1
  unfold nE
  rw [if_pos hb, inB_mk (by omega) (by omega)]
  have : inB (cT 5 v) (-1000000000) 1000000000 = true := inB_mk (by unfold cT; omega) (by unfold cT; omega)
  rw [this]
  rfl
/-- The energy of a power in W and a time in s. -/
theorem energy_of (p t : Int) (h1 : 0 ≤ p) (h2 : p ≤ 1000000) (h3 : 0 ≤ t) (h4 : t ≤ 1000000) :
    gE p ⟨#[87]⟩ t ⟨#[115]⟩ = 0 ∧ bE (gT p ⟨#[87]⟩ t ⟨#[115]⟩) (gS p ⟨#[87]⟩ t ⟨#[115]⟩) = 0 ∧ bD (gT p ⟨#[87]⟩ t ⟨#[115]⟩) (gS p ⟨#[87]⟩ t ⟨#[115]⟩) = 5 ∧ bV (gT p ⟨#[87]⟩ t ⟨#[115]⟩) (gS p ⟨#[87]⟩ t ⟨#[115]⟩) = p * t / 36000 := by
  have hp : bE p ⟨#[87]⟩ = 0 ∧ bD p ⟨#[87]⟩ = 4 ∧ bV p ⟨#[87]⟩ = p * 1 := base_of 6 (by omega) p (by omega) (by omega)
  have ht : bE t ⟨#[115]⟩ = 0 ∧ bD t ⟨#[115]⟩ = 3 ∧ bV t ⟨#[115]⟩ = t * 1 := base_of 4 (by omega) t (by omega) (by omega)
  rw [Int.mul_one] at hp ht
  have hF : gF p ⟨#[87]⟩ t ⟨#[115]⟩ = 0 := gF_mk ⟨hp.1, ht.1⟩ ⟨hp.2.1, ht.2.1⟩ (by rw [hp.2.2]; exact inB_mk (by omega) (by omega)) (by rw [ht.2.2]; exact inB_mk (by omega) (by omega))
  have hV : gV p ⟨#[87]⟩ t ⟨#[115]⟩ = p * t / 36000 := by unfold gV; rw [hp.2.2, ht.2.2]
  have hb := prod_bd p t h1 h2 h3 h4
  have hN := nE_small (p * t / 36000) (by omega) (by omega)
  have hc := canon_base hN
  unfold gE gT gS
  rw [if_pos hF, if_pos hF, if_pos hF, hV]
  exact ⟨hN, hc⟩
/-- A thousand watts are a kilowatt. -/
theorem energy_kilo (p a : Int) (h1 : 0 ≤ p) (h2 : p ≤ 500000) (h3 : 0 ≤ a) (h4 : a ≤ 1000000) :
    gE (1000 * p) ⟨#[87]⟩ a ⟨#[115]⟩ = gE p ⟨#[107, 87]⟩ a ⟨#[115]⟩ ∧ gT (1000 * p) ⟨#[87]⟩ a ⟨#[115]⟩ = gT p ⟨#[107, 87]⟩ a ⟨#[115]⟩ ∧ gS (1000 * p) ⟨#[87]⟩ a ⟨#[115]⟩ = gS p ⟨#[107, 87]⟩ a ⟨#[115]⟩ := by
  have hp : bE (1000 * p) ⟨#[87]⟩ = 0 ∧ bD (1000 * p) ⟨#[87]⟩ = 4 ∧ bV (1000 * p) ⟨#[87]⟩ = 1000 * p * 1 := base_of 6 (by omega) (1000 * p) (by omega) (by omega)
  have hk : bE p ⟨#[107, 87]⟩ = 0 ∧ bD p ⟨#[107, 87]⟩ = 4 ∧ bV p ⟨#[107, 87]⟩ = p * 1000 := base_of 5 (by omega) p (by omega) (by omega)
  have ht : bE a ⟨#[115]⟩ = 0 ∧ bD a ⟨#[115]⟩ = 3 ∧ bV a ⟨#[115]⟩ = a * 1 := base_of 4 (by omega) a (by omega) (by omega)
  have e : bV (1000 * p) ⟨#[87]⟩ = bV p ⟨#[107, 87]⟩ := by rw [hp.2.2, hk.2.2]; omega
  have hF1 : gF (1000 * p) ⟨#[87]⟩ a ⟨#[115]⟩ = 0 := gF_mk ⟨hp.1, ht.1⟩ ⟨hp.2.1, ht.2.1⟩ (by rw [hp.2.2]; exact inB_mk (by omega) (by omega)) (by rw [ht.2.2]; exact inB_mk (by omega) (by omega))
  have hF2 : gF p ⟨#[107, 87]⟩ a ⟨#[115]⟩ = 0 := gF_mk ⟨hk.1, ht.1⟩ ⟨hk.2.1, ht.2.1⟩ (by rw [hk.2.2]; exact inB_mk (by omega) (by omega)) (by rw [ht.2.2]; exact inB_mk (by omega) (by omega))
  have hV : gV (1000 * p) ⟨#[87]⟩ a ⟨#[115]⟩ = gV p ⟨#[107, 87]⟩ a ⟨#[115]⟩ := by unfold gV; rw [e]
  unfold gE gT gS
  rw [if_pos hF1, if_pos hF1, if_pos hF1, if_pos hF2, if_pos hF2, if_pos hF2, hV]
  exact ⟨rfl, rfl, rfl⟩

set_option maxRecDepth 100000 in
set_option maxHeartbeats 2000000 in
theorem value_any (p t : Int) (w : World) (hT : Tab w) (h1 : 0 ≤ p) (h2 : p ≤ 1000000) (h3 : 0 ≤ t) (h4 : t ≤ 1000000) :
    Calls Tryd.prog 28 #[.int .i64 p, .int .i64 t] w fun e w' => e = .returned (.tuple #[.int .i64 (p * t / 36000), .bool true]) ∧ Below w.heap.size w w' := by
  have HT0 := Lib.hid hT
  have HB0 := Lib.hid (Below.refl w.heap.size w)
  have HE := Lib.hid (energy_of p t h1 h2 h3 h4)
  clear h1 h2 h3 h4
  go_enter Tryd.func28, Tryd.ntmps28
  go_wp2_with fail
  refine (q_any _ _ _).mono ?_
  rintro e u1 ⟨rfl, b1⟩
  have HT1 := Lib.hid (HT0.out.below b1 HT0.out.pos)
  have HB1 := Lib.hid (keep2 b1 HB0.out)
  clear b1 HT0 HB0
  go_wp2_with fail
  refine (q_any _ _ _).mono ?_
  rintro e u2 ⟨rfl, b2⟩
  have HT2 := Lib.hid (HT1.out.below b2 HT1.out.pos)
  have HB2 := Lib.hid (keep2 b2 HB1.out)
  clear b2 HT1 HB1
  go_wp2_with fail
  refine (energy_any p ⟨#[87]⟩ t ⟨#[115]⟩ _ HT2.out).mono ?_
  rintro e u3 ⟨rfl, b3⟩
  have HT3 := Lib.hid (HT2.out.below b3 HT2.out.pos)
  have HB3 := Lib.hid (keep2 b3 HB2.out)
  clear b3 HT2 HB2
  rw [HE.out.1]
  go_wp2_with fail
  refine (base12_any (gT p ⟨#[87]⟩ t ⟨#[115]⟩) (gS p ⟨#[87]⟩ t ⟨#[115]⟩) _ (HT3.out.alloc _)).mono ?_
  rintro e u4 ⟨rfl, b4⟩
  have Ka_4 := Lib.hid (QAt.made b4)
  have b4 := bl1 b4
  have HT4 := Lib.hid (HT3.out.below b4 HT3.out.pos)
  have HB4 := Lib.hid (keep2 b4 HB3.out)
  clear b4 HT3 HB3
  rw [HE.out.2.1, HE.out.2.2.1, HE.out.2.2.2]
  obtain ⟨⟨xa, ya⟩, za⟩ := Ka_4.out.lay
  go_wp2_with fail
  go_ret2
  exact ⟨rfl, HB4.out⟩
theorem energy_math (P M A B : Int) (h1 : 0 ≤ P) (h2 : P ≤ 500000) (h3 : 0 ≤ M) (h4 : M ≤ 500000) (h5 : 0 ≤ A) (h6 : A ≤ 500000) (h7 : 0 ≤ B) (h8 : B ≤ 500000) :
    0 ≤ P * A / 36000 ∧ P * A / 36000 ≤ (P + M) * A / 36000 ∧ P * B / 36000 ≤ P * (A + B) / 36000 ∧ P * A / 36000 ≤ P * (A + B) / 36000 ∧ P * A / 36000 + P * B / 36000 ≤ P * (A + B) / 36000 ∧ P * (A + B) / 36000 ≤ P * A / 36000 + P * B / 36000 + 1 ∧ (P * A / 36000 ≤ 1000000000 ∧ 0 ≤ P * B / 36000 ∧ P * B / 36000 ≤ 1000000000) := by
  have a := prod_bd P A h1 (by omega) h5 (by omega)
  have b := prod_bd P B h1 (by omega) h7 (by omega)
  have c := prod_bd M A h3 (by omega) h5 (by omega)
  rw [Int.add_mul, Int.mul_add]
  omega
set_option maxRecDepth 100000 in
set_option maxHeartbeats 8000000 in
theorem energy_walk (x more t u : Int) (w : World) (hT : Tab w) (wx : (Lit.int .u32 x).wf = true) (wm : (Lit.int .u32 more).wf = true) (wt : (Lit.int .u32 t).wf = true) (wu : (Lit.int .u32 u).wf = true) :
    Calls Tryd.prog 9 #[.int .u32 x, .int .u32 more, .int .u32 t, .int .u32 u] w fun e w' => e = .returned (.bool true) ∧ Below w.heap.size w w' := by
  have HT0 := Lib.hid hT
  have HB0 := Lib.hid (Below.refl w.heap.size w)
  have bx := Go.bounds_u32 wx
  have bm := Go.bounds_u32 wm
  have bt := Go.bounds_u32 wt
  have bu := Go.bounds_u32 wu
  obtain ⟨bx1, bx2⟩ := bx
  obtain ⟨bm1, bm2⟩ := bm
  obtain ⟨bt1, bt2⟩ := bt
  obtain ⟨bu1, bu2⟩ := bu
  obtain ⟨P, hP⟩ : ∃ P, x % 500001 = P := ⟨_, rfl⟩
  obtain ⟨M, hM⟩ : ∃ P, more % 500001 = P := ⟨_, rfl⟩
  obtain ⟨A, hA⟩ : ∃ P, t % 500001 = P := ⟨_, rfl⟩
  obtain ⟨B, hB⟩ : ∃ P, u % 500001 = P := ⟨_, rfl⟩
  have hP1 : 0 ≤ P := by omega
  have hP2 : P ≤ 500000 := by omega
  have hM1 : 0 ≤ M := by omega
  have hM2 : M ≤ 500000 := by omega
  have hA1 : 0 ≤ A := by omega
  have hA2 : A ≤ 500000 := by omega
  have hB1 : 0 ≤ B := by omega
  have hB2 : B ≤ 500000 := by omega
  clear wx wm wt wu
  go_enter Tryd.func9, Tryd.ntmps9
  go_wp2_with fail
  refine (head_any _ HT0.out).mono ?_
  rintro e u1 ⟨rfl, b1⟩
  have HT1 := Lib.hid (HT0.out.below b1 HT0.out.pos)
  have HB1 := Lib.hid (keep2 b1 HB0.out)
  clear b1 HT0 HB0
  go_wp2_with fail
  refine (value_any P A _ HT1.out (by omega) (by omega) (by omega) (by omega)).mono ?_
  rintro e u2 ⟨rfl, b2⟩
  have HT2 := Lib.hid (HT1.out.below b2 HT1.out.pos)
  have HB2 := Lib.hid (keep2 b2 HB1.out)
  clear b2 HT1 HB1
  go_wp2_with fail
  refine (value_any (P + M) A _ HT2.out (by omega) (by omega) (by omega) (by omega)).mono ?_
  rintro e u3 ⟨rfl, b3⟩
  have HT3 := Lib.hid (HT2.out.below b3 HT2.out.pos)
  have HB3 := Lib.hid (keep2 b3 HB2.out)
  clear b3 HT2 HB2
  go_wp2_with fail
  refine (value_any P B _ HT3.out (by omega) (by omega) (by omega) (by omega)).mono ?_
  rintro e u4 ⟨rfl, b4⟩
  have HT4 := Lib.hid (HT3.out.below b4 HT3.out.pos)
  have HB4 := Lib.hid (keep2 b4 HB3.out)
  clear b4 HT3 HB3
  go_wp2_with fail
  refine (value_any P (A + B) _ HT4.out (by omega) (by omega) (by omega) (by omega)).mono ?_
  rintro e u5 ⟨rfl, b5⟩
  have HT5 := Lib.hid (HT4.out.below b5 HT4.out.pos)
  have HB5 := Lib.hid (keep2 b5 HB4.out)
  clear b5 HT4 HB4
  have hm := energy_math P M A B hP1 hP2 hM1 hM2 hA1 hA2 hB1 hB2
  generalize P * A / 36000 = v1 at *
  generalize (P + M) * A / 36000 = v2 at *
  generalize P * B / 36000 = v3 at *
  generalize P * (A + B) / 36000 = v4 at *
  obtain ⟨j1, j2, j3, j4, j5, j6, j7⟩ := hm
  have HK := Lib.hid (energy_kilo P A hP1 hP2 hA1 (by omega))
  have q1 : decide (v1 < 0) = false := by simp; omega
  have q2 : decide (v2 < v1) = false := by simp; omega
  have q3 : decide (v4 < v1) = false := by simp; omega
  have q4 : decide (v4 < v3) = false := by simp; omega
  have q5 : decide (v4 < v1 + v3) = false := by simp; omega
  have q6 : decide (v1 + v3 + 1 < v4) = false := by simp; omega
  go_wp2_with fail
  refine (q_any _ _ _).mono ?_
  rintro e u6 ⟨rfl, b6⟩
  have HT6 := Lib.hid (HT5.out.below b6 HT5.out.pos)
  have HB6 := Lib.hid (keep2 b6 HB5.out)
  clear b6 HT5 HB5
  go_wp2_with fail
  refine (q_any _ _ _).mono ?_
  rintro e u7 ⟨rfl, b7⟩
  have HT7 := Lib.hid (HT6.out.below b7 HT6.out.pos)
  have HB7 := Lib.hid (keep2 b7 HB6.out)
  clear b7 HT6 HB6
  go_wp2_with fail
  refine (energy_any P ⟨#[107, 87]⟩ A ⟨#[115]⟩ _ HT7.out).mono ?_
  rintro e u8 ⟨rfl, b8⟩
  have HT8 := Lib.hid (HT7.out.below b8 HT7.out.pos)
  have HB8 := Lib.hid (keep2 b8 HB7.out)
  clear b8 HT7 HB7
  go_wp2_with fail
  refine (q_any _ _ _).mono ?_
  rintro e u9 ⟨rfl, b9⟩
  have Kk_9 := Lib.hid (QAt.made b9)
  have b9 := bl1 b9
  have HT9 := Lib.hid (HT8.out.below b9 HT8.out.pos)
  have HB9 := Lib.hid (keep2 b9 HB8.out)
  clear b9 HT8 HB8
  obtain ⟨⟨xk, yk⟩, zk⟩ := Kk_9.out.lay
  go_wp2_with fail
  refine (q_any _ _ _).mono ?_
  rintro e u10 ⟨rfl, b10⟩
  clear xk yk zk
  have Kk_10 := Lib.hid (Kk_9.out.step b10)
  clear Kk_9
  have HT10 := Lib.hid (HT9.out.below b10 HT9.out.pos)
  have HB10 := Lib.hid (keep2 b10 HB9.out)
  clear b10 HT9 HB9
  obtain ⟨⟨xk, yk⟩, zk⟩ := Kk_10.out.lay
  go_wp2_with fail
  refine (energy_any (1000 * P) ⟨#[87]⟩ A ⟨#[115]⟩ _ HT10.out).mono ?_
  rintro e u11 ⟨rfl, b11⟩
  clear xk yk zk
  have Kk_11 := Lib.hid (Kk_10.out.step b11)
  clear Kk_10
  have HT11 := Lib.hid (HT10.out.below b11 HT10.out.pos)
  have HB11 := Lib.hid (keep2 b11 HB10.out)
  clear b11 HT10 HB10
  obtain ⟨⟨xk, yk⟩, zk⟩ := Kk_11.out.lay
  rw [HK.out.1, HK.out.2.1, HK.out.2.2]
  go_wp2_with fail
  go_ret
  exact ⟨rfl, (HB11.out.alloc HB11.out.size _)⟩
end Go.Proofs.YtbmmmhjgidffpaaDoor
