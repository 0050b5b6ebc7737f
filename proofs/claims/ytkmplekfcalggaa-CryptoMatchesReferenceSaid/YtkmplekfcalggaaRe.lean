/- Law CryptoMatchesReference, the walk. -/
import Derived.Test.YtkmplekfcalggaaRd
namespace Go.Proofs.Ytkmplekfcalggaa
open Go.RowKit

theorem clL_len (l : List Int) (i : Int) (p : List Int) : (clL l i p).length ≤ 100 := by
  unfold clL
  cases hb : clB i p
  · rw [if_neg (by decide)]
    have := stK_L l i p p.length
    have h2 : p.length ≤ 20 := by
      unfold clB at hb
      rw [Bool.or_eq_false_iff, Bool.or_eq_false_iff, decide_eq_false_iff_not, decide_eq_false_iff_not] at hb
      omega
    omega
  · rw [if_pos rfl]; simp
theorem climbR_any (v pv : Value) (l p : List Int) (i : Int) (w : World) (h : IntsAt w v l) (hp : IntsAt w pv p) (h9 : l.length ≤ 100000) (hi : i ≤ 9223372036854775807) :
    Calls Try.prog 13 #[v, .int .i64 i, pv] w fun e w' => ∃ u, e = .returned (.tuple #[.int .i64 (clH l i p), u]) ∧ RowsAt w' u (clL l i p) ∧ Below w.heap.size w w' :=
  (climb_any v pv l p i w h hp h9 hi).mono fun e w' ⟨⟨u, h1, h2⟩, h3⟩ => ⟨u, h1, h2.rows (by have := clL_len l i p; omega), h3⟩
theorem rclimbR_any (v pv : Value) (l p : List Int) (i : Int) (w : World) (h : IntsAt w v l) (hp : IntsAt w pv p) (h9 : l.length ≤ 1000) (hi : i ≤ 9223372036854775807) :
    Calls Try.prog 14 #[v, .int .i64 i, pv] w fun e w' => ∃ u, e = .returned (.tuple #[.int .i64 (clH l i p), u]) ∧ RowsAt w' u (clL l i p) ∧ Below w.heap.size w w' := by
  have hl := clL_len l i p
  cases hb : clB i p
  · rw [show clH l i p = (stK l i p p.length).h by unfold clH; rw [hb]; rfl, show clL l i p = (stK l i p p.length).L by unfold clL; rw [hb]; rfl]
    rw [show clL l i p = (stK l i p p.length).L by unfold clL; rw [hb]; rfl] at hl
    exact (rclimb_main v pv l p i w h hp h9 hi hb).mono fun e w' ⟨⟨u, h1, h2⟩, h3⟩ => ⟨u, h1, h2.rows (by omega), h3⟩
  · rw [show clH l i p = 0 by unfold clH; rw [hb]; rfl, show clL l i p = [] by unfold clL; rw [hb]; rfl]
    exact (rclimb_no v pv l p i w h hp hb).mono fun e w' h => ⟨_, h.1, rows_nil _, h.2⟩
theorem rsumB_any (v : Value) (l : List Int) (w : World) (h : IntsAt w v l) : Calls Try.prog 16 #[v] w fun e w' => e = .returned (.int .i64 (Dg l)) ∧ Below w.heap.size w w' :=
  (rsum_any v l w h).mono fun e w' ⟨h1, n, h2⟩ => ⟨h1, h2 ▸ below_drewN' _ _ _⟩
theorem intsB_any (v u : Value) (l : List Int) (w : World) (h : IntsAt w v l) (h' : IntsAt w u l) : Calls Try.prog 25 #[v, u] w fun e w' => e = .returned (.bool true) ∧ Below w.heap.size w w' :=
  (ints_any v u l l w h h').mono fun e w' ⟨h1, n, h2⟩ => ⟨by rw [h1, decide_eq_true rfl], h2 ▸ below_drewN' _ _ _⟩
set_option maxRecDepth 100000 in
set_option maxHeartbeats 8000000 in
theorem mr_a (key : Int) (v1 : Value) (l : List Int) (sec pub : Int) (v4 : Value) (L : List (List Int)) (ix : Int) (v6 : Value) (p : List Int) (w : World) (_k0 : -9223372036854775808 ≤ key) (_k9 : key ≤ 9223372036854775807) (h1 : IntsAt w v1 l) (_s0 : -9223372036854775808 ≤ sec) (_s9 : sec ≤ 9223372036854775807) (_p0 : -9223372036854775808 ≤ pub) (_p9 : pub ≤ 9223372036854775807) (h4 : RowsAt w v4 L) (_i0 : -9223372036854775808 ≤ ix) (i9 : ix ≤ 9223372036854775807) (h6 : IntsAt w v6 p) (hl : 100 < l.length) : Calls Try.prog 3 #[.int .i64 key, v1, .int .i64 sec, .int .i64 pub, v4, .int .i64 ix, v6] w fun e w' => e = .returned (.bool true) ∧ Below w.heap.size w w' := by
  have HA0 := Lib.hid h1
  have HR0 := Lib.hid h4
  have HP0 := Lib.hid h6
  replace i9 := Lib.hid i9
  obtain ⟨aa, ac, rfl, hm1, -⟩ := h1
  obtain ⟨la, lc, rfl, hm4, -⟩ := h4
  obtain ⟨pa, pc, rfl, hm6, -⟩ := h6
  unfold maxLen at hm1 hm4 hm6
  clear _k0 _k9 _s0 _s9 _p0 _p9 _i0
  replace hl := Lib.hid hl
  have HB0 := Lib.hid (Below.refl w.heap.size w)
  go_enter Try.func3, Try.ntmps3
  go_wp2_with fail
  refine (head_any _).mono ?_
  rintro e u1 ⟨rfl, b1⟩
  have FA_1 := Lib.hid (HA0.out.step b1)
  clear HA0
  have FR_2 := Lib.hid (HR0.out.step b1)
  clear HR0
  have FP_3 := Lib.hid (HP0.out.step b1)
  clear HP0
  have HB4 := Lib.hid (keep2 b1 HB0.out)
  clear HB0 b1
  have g1 : decide ((l.length : Int) > 100) = true := by simp; have := hl.out; omega
  have g1b : decide ((100 : Int) < l.length) = true := by simp; have := hl.out; omega
  go_wp2
  go_ret
  exact ⟨rfl, HB4.out⟩
set_option maxRecDepth 100000 in
set_option maxHeartbeats 8000000 in
theorem mr_b (key : Int) (v1 : Value) (l : List Int) (sec pub : Int) (v4 : Value) (L : List (List Int)) (ix : Int) (v6 : Value) (p : List Int) (w : World) (_k0 : -9223372036854775808 ≤ key) (_k9 : key ≤ 9223372036854775807) (h1 : IntsAt w v1 l) (_s0 : -9223372036854775808 ≤ sec) (_s9 : sec ≤ 9223372036854775807) (_p0 : -9223372036854775808 ≤ pub) (_p9 : pub ≤ 9223372036854775807) (h4 : RowsAt w v4 L) (_i0 : -9223372036854775808 ≤ ix) (i9 : ix ≤ 9223372036854775807) (h6 : IntsAt w v6 p) (hl : l.length ≤ 100) (hf : fewB L 60 = false) : Calls Try.prog 3 #[.int .i64 key, v1, .int .i64 sec, .int .i64 pub, v4, .int .i64 ix, v6] w fun e w' => e = .returned (.bool true) ∧ Below w.heap.size w w' := by
  have HA0 := Lib.hid h1
  have HR0 := Lib.hid h4
  have HP0 := Lib.hid h6
  replace i9 := Lib.hid i9
  obtain ⟨aa, ac, rfl, hm1, -⟩ := h1
  obtain ⟨la, lc, rfl, hm4, -⟩ := h4
  obtain ⟨pa, pc, rfl, hm6, -⟩ := h6
  unfold maxLen at hm1 hm4 hm6
  clear _k0 _k9 _s0 _s9 _p0 _p9 _i0
  replace hl := Lib.hid hl
  replace hf := Lib.hid hf
  have HB0 := Lib.hid (Below.refl w.heap.size w)
  go_enter Try.func3, Try.ntmps3
  go_wp2_with fail
  refine (head_any _).mono ?_
  rintro e u1 ⟨rfl, b1⟩
  have FA_1 := Lib.hid (HA0.out.step b1)
  clear HA0
  have FR_2 := Lib.hid (HR0.out.step b1)
  clear HR0
  have FP_3 := Lib.hid (HP0.out.step b1)
  clear HP0
  have HB4 := Lib.hid (keep2 b1 HB0.out)
  clear HB0 b1
  have g1 : decide ((l.length : Int) > 100) = false := by simp; have := hl.out; omega
  have g1b : decide ((100 : Int) < l.length) = false := by simp; have := hl.out; omega
  go_wp2_with fail
  refine (few_any _ L 60 _ FR_2.out).mono ?_
  rintro e w' ⟨rfl, rfl⟩
  rw [hf.out]
  go_wp2
  go_ret
  exact ⟨rfl, HB4.out⟩
set_option maxRecDepth 100000 in
set_option maxHeartbeats 8000000 in
theorem mr_c (key : Int) (v1 : Value) (l : List Int) (sec pub : Int) (v4 : Value) (L : List (List Int)) (ix : Int) (v6 : Value) (p : List Int) (w : World) (_k0 : -9223372036854775808 ≤ key) (_k9 : key ≤ 9223372036854775807) (h1 : IntsAt w v1 l) (_s0 : -9223372036854775808 ≤ sec) (_s9 : sec ≤ 9223372036854775807) (_p0 : -9223372036854775808 ≤ pub) (_p9 : pub ≤ 9223372036854775807) (h4 : RowsAt w v4 L) (_i0 : -9223372036854775808 ≤ ix) (i9 : ix ≤ 9223372036854775807) (h6 : IntsAt w v6 p) (hl : l.length ≤ 100) (hf : fewB L 60 = true) (hp : 30 < p.length) : Calls Try.prog 3 #[.int .i64 key, v1, .int .i64 sec, .int .i64 pub, v4, .int .i64 ix, v6] w fun e w' => e = .returned (.bool true) ∧ Below w.heap.size w w' := by
  have HA0 := Lib.hid h1
  have HR0 := Lib.hid h4
  have HP0 := Lib.hid h6
  replace i9 := Lib.hid i9
  obtain ⟨aa, ac, rfl, hm1, -⟩ := h1
  obtain ⟨la, lc, rfl, hm4, -⟩ := h4
  obtain ⟨pa, pc, rfl, hm6, -⟩ := h6
  unfold maxLen at hm1 hm4 hm6
  clear _k0 _k9 _s0 _s9 _p0 _p9 _i0
  replace hl := Lib.hid hl
  replace hf := Lib.hid hf
  replace hp := Lib.hid hp
  have HB0 := Lib.hid (Below.refl w.heap.size w)
  go_enter Try.func3, Try.ntmps3
  go_wp2_with fail
  refine (head_any _).mono ?_
  rintro e u1 ⟨rfl, b1⟩
  have FA_1 := Lib.hid (HA0.out.step b1)
  clear HA0
  have FR_2 := Lib.hid (HR0.out.step b1)
  clear HR0
  have FP_3 := Lib.hid (HP0.out.step b1)
  clear HP0
  have HB4 := Lib.hid (keep2 b1 HB0.out)
  clear HB0 b1
  have g1 : decide ((l.length : Int) > 100) = false := by simp; have := hl.out; omega
  have g1b : decide ((100 : Int) < l.length) = false := by simp; have := hl.out; omega
  have g2 : decide ((p.length : Int) > 30) = true := by simp; have := hp.out; omega
  have g2b : decide ((30 : Int) < p.length) = true := by simp; have := hp.out; omega
  go_wp2_with fail
  refine (few_any _ L 60 _ FR_2.out).mono ?_
  rintro e w' ⟨rfl, rfl⟩
  rw [hf.out]
  go_wp2
  go_ret
  exact ⟨rfl, HB4.out⟩
set_option maxRecDepth 100000 in
set_option maxHeartbeats 8000000 in
theorem mr_main (key : Int) (v1 : Value) (l : List Int) (sec pub : Int) (v4 : Value) (L : List (List Int)) (ix : Int) (v6 : Value) (p : List Int) (w : World) (_k0 : -9223372036854775808 ≤ key) (_k9 : key ≤ 9223372036854775807) (h1 : IntsAt w v1 l) (_s0 : -9223372036854775808 ≤ sec) (_s9 : sec ≤ 9223372036854775807) (_p0 : -9223372036854775808 ≤ pub) (_p9 : pub ≤ 9223372036854775807) (h4 : RowsAt w v4 L) (_i0 : -9223372036854775808 ≤ ix) (i9 : ix ≤ 9223372036854775807) (h6 : IntsAt w v6 p) (hl : l.length ≤ 100) (hf : fewB L 60 = true) (hp : p.length ≤ 30) : Calls Try.prog 3 #[.int .i64 key, v1, .int .i64 sec, .int .i64 pub, v4, .int .i64 ix, v6] w fun e w' => e = .returned (.bool true) ∧ Below w.heap.size w w' := by
  have HA0 := Lib.hid h1
  have HR0 := Lib.hid h4
  have HP0 := Lib.hid h6
  replace i9 := Lib.hid i9
  obtain ⟨aa, ac, rfl, hm1, -⟩ := h1
  obtain ⟨la, lc, rfl, hm4, -⟩ := h4
  obtain ⟨pa, pc, rfl, hm6, -⟩ := h6
  unfold maxLen at hm1 hm4 hm6
  clear _k0 _k9 _s0 _s9 _p0 _p9 _i0
  replace hl := Lib.hid hl
  replace hf := Lib.hid hf
  replace hp := Lib.hid hp
  have HB0 := Lib.hid (Below.refl w.heap.size w)
  go_enter Try.func3, Try.ntmps3
  go_wp2_with fail
  refine (head_any _).mono ?_
  rintro e u1 ⟨rfl, b1⟩
  have FA_1 := Lib.hid (HA0.out.step b1)
  clear HA0
  have FR_2 := Lib.hid (HR0.out.step b1)
  clear HR0
  have FP_3 := Lib.hid (HP0.out.step b1)
  clear HP0
  have HB4 := Lib.hid (keep2 b1 HB0.out)
  clear HB0 b1
  have g1 : decide ((l.length : Int) > 100) = false := by simp; have := hl.out; omega
  have g1b : decide ((100 : Int) < l.length) = false := by simp; have := hl.out; omega
  have g2 : decide ((p.length : Int) > 30) = false := by simp; have := hp.out; omega
  have g2b : decide ((30 : Int) < p.length) = false := by simp; have := hp.out; omega
  go_wp2_with fail
  refine (few_any _ L 60 _ FR_2.out).mono ?_
  rintro e w' ⟨rfl, rfl⟩
  rw [hf.out]
  have H60 := Lib.hid (show L.length ≤ 1000 by have := (few_len hf.out).1; omega)
  go_wp2_with fail
  clear g1 g1b g2 g2b hm1 hm4 hm6
  refine (climbR_any _ _ l p ix _ FA_1.out FP_3.out (by have := hl.out; omega) i9.out).mono ?_
  rintro e u2 ⟨cu, rfl, hc, b2⟩
  have FA_5 := Lib.hid (FA_1.out.step b2)
  clear FA_1
  have FR_6 := Lib.hid (FR_2.out.step b2)
  clear FR_2
  have FP_7 := Lib.hid (FP_3.out.step b2)
  clear FP_3
  have HB8 := Lib.hid (keep2 b2 HB4.out)
  clear HB4 b2
  have FC1_9 := Lib.hid (hc)
  obtain ⟨ca, cc, rfl, -, -⟩ := hc
  have HCL := Lib.hid (clL_len l ix p)
  obtain ⟨ch, hch⟩ : ∃ z, clH l ix p = z := ⟨_, rfl⟩
  rw [hch]
  replace hch := Lib.hid hch
  go_wp2_with fail
  refine (rclimbR_any _ _ l p ix _ FA_5.out FP_7.out (by have := hl.out; omega) i9.out).mono ?_
  rintro e u3 ⟨du, rfl, hc, b3⟩
  have FA_10 := Lib.hid (FA_5.out.step b3)
  clear FA_5
  have FR_11 := Lib.hid (FR_6.out.step b3)
  clear FR_6
  have FP_12 := Lib.hid (FP_7.out.step b3)
  clear FP_7
  have FC1_13 := Lib.hid (FC1_9.out.step b3)
  clear FC1_9
  have HB14 := Lib.hid (keep2 b3 HB8.out)
  clear HB8 b3
  have FC2_15 := Lib.hid (hc)
  obtain ⟨da, dc, rfl, -, -⟩ := hc
  rw [hch.out]
  clear FP_12
  obtain ⟨d0, hd0⟩ : ∃ z, Dg l = z := ⟨_, rfl⟩
  replace hd0 := Lib.hid hd0
  obtain ⟨d1, hd1⟩ : ∃ z, Dg (tgd key l) = z := ⟨_, rfl⟩
  replace hd1 := Lib.hid hd1
  obtain ⟨p0, hp0⟩ : ∃ z, pw 7 sec = z := ⟨_, rfl⟩
  replace hp0 := Lib.hid hp0
  obtain ⟨p1, hp1⟩ : ∃ z, pw pub sec = z := ⟨_, rfl⟩
  replace hp1 := Lib.hid hp1
  obtain ⟨rt, hrt⟩ : ∃ z, rtL L = z := ⟨_, rfl⟩
  replace hrt := Lib.hid hrt
  go_wp2_with fail
  refine (sum_any _ l _ FA_10.out).mono ?_
  rintro e w' ⟨rfl, rfl⟩
  rw [hd0.out]
  go_wp2_with fail
  refine (rsumB_any _ l _ FA_10.out).mono ?_
  rintro e u4 ⟨rfl, b4⟩
  have FA_16 := Lib.hid (FA_10.out.step b4)
  clear FA_10
  have FR_17 := Lib.hid (FR_11.out.step b4)
  clear FR_11
  have FC1_18 := Lib.hid (FC1_13.out.step b4)
  clear FC1_13
  have FC2_19 := Lib.hid (FC2_15.out.step b4)
  clear FC2_15
  have HB20 := Lib.hid (keep2 b4 HB14.out)
  clear HB14 b4
  rw [hd0.out]
  go_wp2_with fail
  refine (tagA_any key _ l _ FA_16.out (by have := hl.out; omega)).mono ?_
  rintro e u5 ⟨rfl, b5⟩
  have FA_21 := Lib.hid (FA_16.out.step b5)
  clear FA_16
  have FR_22 := Lib.hid (FR_17.out.step b5)
  clear FR_17
  have FC1_23 := Lib.hid (FC1_18.out.step b5)
  clear FC1_18
  have FC2_24 := Lib.hid (FC2_19.out.step b5)
  clear FC2_19
  have HB25 := Lib.hid (keep2 b5 HB20.out)
  clear HB20 b5
  rw [hd1.out]
  go_wp2_with fail
  refine (rtagA_any key _ l _ FA_21.out (by have := hl.out; omega)).mono ?_
  rintro e u6 ⟨rfl, b6⟩
  have FA_26 := Lib.hid (FA_21.out.step b6)
  clear FA_21
  have FR_27 := Lib.hid (FR_22.out.step b6)
  clear FR_22
  have FC1_28 := Lib.hid (FC1_23.out.step b6)
  clear FC1_23
  have FC2_29 := Lib.hid (FC2_24.out.step b6)
  clear FC2_24
  have HB30 := Lib.hid (keep2 b6 HB25.out)
  clear HB25 b6
  rw [hd1.out]
  clear FA_26
  go_wp2_with fail
  refine (public_any sec _).mono ?_
  rintro e w' ⟨rfl, rfl⟩
  rw [hp0.out]
  go_wp2_with fail
  refine (rpublic_any sec _).mono ?_
  rintro e w' ⟨rfl, rfl⟩
  rw [hp0.out]
  go_wp2_with fail
  refine (shared_any sec pub _).mono ?_
  rintro e w' ⟨rfl, rfl⟩
  rw [hp1.out]
  go_wp2_with fail
  refine (rshared_any sec pub _).mono ?_
  rintro e w' ⟨rfl, rfl⟩
  rw [hp1.out]
  go_wp2_with fail
  refine (root_any _ L _ FR_27.out).mono ?_
  rintro e u7 ⟨rfl, b7⟩
  have FR_31 := Lib.hid (FR_27.out.step b7)
  clear FR_27
  have FC1_32 := Lib.hid (FC1_28.out.step b7)
  clear FC1_28
  have FC2_33 := Lib.hid (FC2_29.out.step b7)
  clear FC2_29
  have HB34 := Lib.hid (keep2 b7 HB30.out)
  clear HB30 b7
  rw [hrt.out]
  go_wp2_with fail
  refine (rroot_any _ L _ FR_31.out).mono ?_
  rintro e u8 ⟨rfl, b8⟩
  have FR_35 := Lib.hid (FR_31.out.step b8)
  clear FR_31
  have FC1_36 := Lib.hid (FC1_32.out.step b8)
  clear FC1_32
  have FC2_37 := Lib.hid (FC2_33.out.step b8)
  clear FC2_33
  have HB38 := Lib.hid (keep2 b8 HB34.out)
  clear HB34 b8
  rw [hrt.out]
  go_wp2_with fail
  refine (path_any _ L ix _ FR_35.out).mono ?_
  rintro e u9 ⟨u1_, rfl, hq, b9⟩
  have FR_39 := Lib.hid (FR_35.out.step b9)
  clear FR_35
  have FC1_40 := Lib.hid (FC1_36.out.step b9)
  clear FC1_36
  have FC2_41 := Lib.hid (FC2_37.out.step b9)
  clear FC2_37
  have HB42 := Lib.hid (keep2 b9 HB38.out)
  clear HB38 b9
  have FQ1_43 := Lib.hid (hq)
  obtain ⟨qa, qc, rfl, -, -⟩ := hq
  go_wp2_with fail
  refine (rpath_any _ L ix _ FR_39.out H60.out).mono ?_
  rintro e u10 ⟨u2_, rfl, hq, b10⟩
  have FR_44 := Lib.hid (FR_39.out.step b10)
  clear FR_39
  have FC1_45 := Lib.hid (FC1_40.out.step b10)
  clear FC1_40
  have FC2_46 := Lib.hid (FC2_41.out.step b10)
  clear FC2_41
  have FQ1_47 := Lib.hid (FQ1_43.out.step b10)
  clear FQ1_43
  have HB48 := Lib.hid (keep2 b10 HB42.out)
  clear HB42 b10
  have FQ2_49 := Lib.hid (hq)
  obtain ⟨ra, rc, rfl, -, -⟩ := hq
  clear FR_44
  go_wp2_with fail
  refine (intsB_any _ _ (pthA L ix) _ FQ1_47.out FQ2_49.out).mono ?_
  rintro e u11 ⟨rfl, b11⟩
  have FC1_50 := Lib.hid (FC1_45.out.step b11)
  clear FC1_45
  have FC2_51 := Lib.hid (FC2_46.out.step b11)
  clear FC2_46
  have FQ1_52 := Lib.hid (FQ1_47.out.step b11)
  clear FQ1_47
  have FQ2_53 := Lib.hid (FQ2_49.out.step b11)
  clear FQ2_49
  have HB54 := Lib.hid (keep2 b11 HB48.out)
  clear HB48 b11
  clear FQ1_52
  clear FQ2_53
  go_wp2_with fail
  refine (rrows_any _ _ (clL l ix p) _ FC1_50.out FC2_51.out (by have := HCL.out; omega)).mono ?_
  rintro e u12 ⟨rfl, b12⟩
  have FC1_55 := Lib.hid (FC1_50.out.step b12)
  clear FC1_50
  have FC2_56 := Lib.hid (FC2_51.out.step b12)
  clear FC2_51
  have HB57 := Lib.hid (keep2 b12 HB54.out)
  clear HB54 b12
  clear FC1_55
  clear FC2_56
  go_wp2
  go_ret
  exact ⟨rfl, HB57.out⟩
theorem mr_any (key : Int) (v1 : Value) (l : List Int) (sec pub : Int) (v4 : Value) (L : List (List Int)) (ix : Int) (v6 : Value) (p : List Int) (w : World) (_k0 : -9223372036854775808 ≤ key) (_k9 : key ≤ 9223372036854775807) (h1 : IntsAt w v1 l) (_s0 : -9223372036854775808 ≤ sec) (_s9 : sec ≤ 9223372036854775807) (_p0 : -9223372036854775808 ≤ pub) (_p9 : pub ≤ 9223372036854775807) (h4 : RowsAt w v4 L) (_i0 : -9223372036854775808 ≤ ix) (i9 : ix ≤ 9223372036854775807) (h6 : IntsAt w v6 p) : Calls Try.prog 3 #[.int .i64 key, v1, .int .i64 sec, .int .i64 pub, v4, .int .i64 ix, v6] w fun e w' => e = .returned (.bool true) ∧ Below w.heap.size w w' := by
  by_cases hl : 100 < l.length
  · exact mr_a key v1 l sec pub v4 L ix v6 p w _k0 _k9 h1 _s0 _s9 _p0 _p9 h4 _i0 i9 h6 hl
  · cases hf : fewB L 60
    · exact mr_b key v1 l sec pub v4 L ix v6 p w _k0 _k9 h1 _s0 _s9 _p0 _p9 h4 _i0 i9 h6 (by omega) hf
    · by_cases hp : 30 < p.length
      · exact mr_c key v1 l sec pub v4 L ix v6 p w _k0 _k9 h1 _s0 _s9 _p0 _p9 h4 _i0 i9 h6 (by omega) hf hp
      · exact mr_main key v1 l sec pub v4 L ix v6 p w _k0 _k9 h1 _s0 _s9 _p0 _p9 h4 _i0 i9 h6 (by omega) hf (by omega)
end Go.Proofs.Ytkmplekfcalggaa
