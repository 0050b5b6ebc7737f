/- Law HoursMatchesReference, the walk. -/
import Derived.Test.YtmejpmnipejpiaaHn
namespace Go.Proofs.Ytmejpmnipejpiaa
open Go.RowKit

theorem rnext_q (v : Value) (l : List (Int × Int)) (m x : Int) (b : Bool) (hx : nxV l m = (x, b)) (w : World) (h : WinsAt w v l) : Calls Try.prog 11 #[v, .int .i64 m] w fun e w' => e = .returned (.tuple #[.int .i64 x, .bool b]) ∧ Below w.heap.size w w' :=
  (rnext_any v l m w h).mono fun e w' hq => by unfold NxP at hq; rw [hx] at hq; exact hq
theorem rQuiet_q (v : Value) (l : List (Int × Int)) (m : Int) (b : Bool) (hb : qui l m = b) (w : World) (h : WinsAt w v l) : Calls Try.prog 15 #[v, .int .i64 m] w fun e w' => e = .returned (.bool b) ∧ Below w.heap.size w w' := by
  rw [← hb]; exact rQuiet_any v l m w h
theorem rcg_q (v : Value) (l : List (Int × Int)) (f t : Int) (c : List (Int × Bool)) (hc : cgV l f t = c) (w : World) (h : WinsAt w v l) : Calls Try.prog 18 #[v, .int .i64 f, .int .i64 t] w fun e w' => ∃ a k, e = .returned (.slice a c.length k) ∧ ChsAt w' (.slice a c.length k) c ∧ Below w.heap.size w w' := by
  refine (rcg_any v l f t w h).mono fun e w' ⟨u, he, hu, hb⟩ => ?_
  rw [hc] at hu
  have hu2 := hu
  obtain ⟨a, k, rfl, -⟩ := hu
  exact ⟨a, k, he, hu2, hb⟩
theorem fine_q (v : Value) (l : List (Int × Int)) (m : Int) (b : Bool) (hb : fine l m = b) (w : World) (h : WinsAt w v l) : Calls Try.prog 19 #[v, .int .i64 m] w fun e w' => e = .returned (.bool b) ∧ Below w.heap.size w w' := by
  rw [← hb]; exact fine_any v l m w h
set_option maxRecDepth 100000 in
set_option maxHeartbeats 8000000 in
theorem hm_a (v : Value) (l : List (Int × Int)) (m f t : Int) (w : World) (h : WinsAt w v l) (h20 : 20 < l.length) : Calls Try.prog 3 #[v, .int .i64 m, .int .i64 f, .int .i64 t] w fun e w' => e = .returned (.bool true) ∧ Below w.heap.size w w' := by
  have HI0 := Lib.hid h
  obtain ⟨va, vc, rfl, -, hm, -⟩ := h
  unfold maxLen at hm
  replace h20 := Lib.hid h20
  have HB0 := Lib.hid (Below.refl w.heap.size w)
  go_enter Try.func3, Try.ntmps3
  go_wp2_with fail
  refine (head_any _).mono ?_
  rintro e u1 ⟨rfl, b1⟩
  have FL_1 := Lib.hid (HI0.out.step b1)
  clear HI0
  have HB2 := Lib.hid (keep2 b1 HB0.out)
  clear HB0 b1
  have g1 : decide ((l.length : Int) > 20) = true := by simp; have := h20.out; omega
  have g1b : decide ((20 : Int) < l.length) = true := by simp; have := h20.out; omega
  go_wp2
  go_ret
  exact ⟨rfl, HB2.out⟩
set_option maxRecDepth 100000 in
set_option maxHeartbeats 8000000 in
theorem hm_b (v : Value) (l : List (Int × Int)) (m f t : Int) (w : World) (h : WinsAt w v l) (h20 : l.length ≤ 20) (h1 : f < wrap64 (t - 3000)) (h2 : wrap64 (t - 14400) ≤ f) : Calls Try.prog 3 #[v, .int .i64 m, .int .i64 f, .int .i64 t] w fun e w' => e = .returned (.bool true) ∧ Below w.heap.size w w' := by
  have HI0 := Lib.hid h
  obtain ⟨va, vc, rfl, -, hm, -⟩ := h
  unfold maxLen at hm
  obtain ⟨x, hx⟩ : ∃ z, wrap64 (t - 3000) = z := ⟨_, rfl⟩
  obtain ⟨y, hy⟩ : ∃ z, wrap64 (t - 14400) = z := ⟨_, rfl⟩
  rw [hx] at h1
  rw [hy] at h2
  replace h20 := Lib.hid h20
  have HB0 := Lib.hid (Below.refl w.heap.size w)
  go_enter Try.func3, Try.ntmps3
  go_wp2_with fail
  refine (head_any _).mono ?_
  rintro e u1 ⟨rfl, b1⟩
  have FL_1 := Lib.hid (HI0.out.step b1)
  clear HI0
  have HB2 := Lib.hid (keep2 b1 HB0.out)
  clear HB0 b1
  have g1 : decide ((l.length : Int) > 20) = false := by simp; have := h20.out; omega
  have g1b : decide ((20 : Int) < l.length) = false := by simp; have := h20.out; omega
  go_wp2
  go_ret
  exact ⟨rfl, HB2.out⟩
set_option maxRecDepth 100000 in
set_option maxHeartbeats 8000000 in
theorem hm_c (v : Value) (l : List (Int × Int)) (m f t : Int) (w : World) (h : WinsAt w v l) (h20 : l.length ≤ 20) (h1 : ¬ f < wrap64 (t - 3000)) : Calls Try.prog 3 #[v, .int .i64 m, .int .i64 f, .int .i64 t] w fun e w' => e = .returned (.bool true) ∧ Below w.heap.size w w' := by
  have HI0 := Lib.hid h
  obtain ⟨va, vc, rfl, -, hm, -⟩ := h
  unfold maxLen at hm
  obtain ⟨x, hx⟩ : ∃ z, wrap64 (t - 3000) = z := ⟨_, rfl⟩
  obtain ⟨y, hy⟩ : ∃ z, wrap64 (t - 14400) = z := ⟨_, rfl⟩
  rw [hx] at h1
  replace h20 := Lib.hid h20
  have HB0 := Lib.hid (Below.refl w.heap.size w)
  go_enter Try.func3, Try.ntmps3
  go_wp2_with fail
  refine (head_any _).mono ?_
  rintro e u1 ⟨rfl, b1⟩
  have FL_1 := Lib.hid (HI0.out.step b1)
  clear HI0
  have HB2 := Lib.hid (keep2 b1 HB0.out)
  clear HB0 b1
  have g1 : decide ((l.length : Int) > 20) = false := by simp; have := h20.out; omega
  have g1b : decide ((20 : Int) < l.length) = false := by simp; have := h20.out; omega
  obtain ⟨nx, nb, hnx⟩ : ∃ x b, nxV l m = (x, b) := ⟨_, _, rfl⟩
  obtain ⟨vb, hvb⟩ : ∃ z, okL l = z := ⟨_, rfl⟩
  obtain ⟨qb, hqb⟩ : ∃ z, qui l m = z := ⟨_, rfl⟩
  obtain ⟨cl, hcl⟩ : ∃ z, cgV l f t = z := ⟨_, rfl⟩
  have HNX := Lib.hid hnx
  have HVB := Lib.hid hvb
  have HQB := Lib.hid hqb
  have HCL := Lib.hid hcl
  clear hnx hvb hqb hcl
  go_wp2_with fail
  refine (next_q _ l m _ _ HNX.out _ FL_1.out).mono ?_
  rintro e u2 ⟨rfl, b2⟩
  have FL_3 := Lib.hid (FL_1.out.step b2)
  clear FL_1
  have HB4 := Lib.hid (keep2 b2 HB2.out)
  clear HB2 b2
  go_wp2_with fail
  refine (rnext_q _ l m _ _ HNX.out _ FL_3.out).mono ?_
  rintro e u3 ⟨rfl, b3⟩
  have FL_5 := Lib.hid (FL_3.out.step b3)
  clear FL_3
  have HB6 := Lib.hid (keep2 b3 HB4.out)
  clear HB4 b3
  go_wp2_with fail
  refine (valid_q _ l _ FL_5.out _ HVB.out).mono ?_
  rintro e u4 ⟨rfl, b4⟩
  have FL_7 := Lib.hid (FL_5.out.step b4)
  clear FL_5
  have HB8 := Lib.hid (keep2 b4 HB6.out)
  clear HB6 b4
  go_wp2_with fail
  refine (rvalid_q _ l _ FL_7.out _ HVB.out).mono ?_
  rintro e u5 ⟨rfl, b5⟩
  have FL_9 := Lib.hid (FL_7.out.step b5)
  clear FL_7
  have HB10 := Lib.hid (keep2 b5 HB8.out)
  clear HB8 b5
  go_wp2_with fail
  refine (quiet_q _ l m _ HQB.out _ FL_9.out).mono ?_
  rintro e u6 ⟨rfl, b6⟩
  have FL_11 := Lib.hid (FL_9.out.step b6)
  clear FL_9
  have HB12 := Lib.hid (keep2 b6 HB10.out)
  clear HB10 b6
  go_wp2_with fail
  refine (rQuiet_q _ l m _ HQB.out _ FL_11.out).mono ?_
  rintro e u7 ⟨rfl, b7⟩
  have FL_13 := Lib.hid (FL_11.out.step b7)
  clear FL_11
  have HB14 := Lib.hid (keep2 b7 HB12.out)
  clear HB12 b7
  go_wp2_with fail
  refine (cg_q _ l f t _ HCL.out _ FL_13.out).mono ?_
  rintro e u8 ⟨ca, ck, rfl, hc, b8⟩
  have FL_15 := Lib.hid (FL_13.out.step b8)
  clear FL_13
  have HB16 := Lib.hid (keep2 b8 HB14.out)
  clear HB14 b8
  have FC_17 := Lib.hid (hc)
  clear hc
  go_wp2_with fail
  refine (rcg_q _ l f t _ HCL.out _ FL_15.out).mono ?_
  rintro e u9 ⟨da, dk, rfl, hd, b9⟩
  have FL_18 := Lib.hid (FL_15.out.step b9)
  clear FL_15
  have FC_19 := Lib.hid (FC_17.out.step b9)
  clear FC_17
  have HB20 := Lib.hid (keep2 b9 HB16.out)
  clear HB16 b9
  have FD_21 := Lib.hid (hd)
  clear hd
  go_wp2_with fail
  refine (same_q _ _ cl cl _ (eqC_self _) _ FC_19.out FD_21.out).mono ?_
  rintro e u10 ⟨rfl, b10⟩
  have FL_22 := Lib.hid (FL_18.out.step b10)
  clear FL_18
  have FC_23 := Lib.hid (FC_19.out.step b10)
  clear FC_19
  have FD_24 := Lib.hid (FD_21.out.step b10)
  clear FD_21
  have HB25 := Lib.hid (keep2 b10 HB20.out)
  clear HB20 b10
  go_wp2
  go_ret
  exact ⟨rfl, HB25.out⟩
set_option maxRecDepth 100000 in
set_option maxHeartbeats 8000000 in
theorem hm_d (v : Value) (l : List (Int × Int)) (m f t : Int) (w : World) (h : WinsAt w v l) (h20 : l.length ≤ 20) (h1 : f < wrap64 (t - 3000)) (h2 : ¬ wrap64 (t - 14400) ≤ f) : Calls Try.prog 3 #[v, .int .i64 m, .int .i64 f, .int .i64 t] w fun e w' => e = .returned (.bool true) ∧ Below w.heap.size w w' := by
  have HI0 := Lib.hid h
  obtain ⟨va, vc, rfl, -, hm, -⟩ := h
  unfold maxLen at hm
  obtain ⟨x, hx⟩ : ∃ z, wrap64 (t - 3000) = z := ⟨_, rfl⟩
  obtain ⟨y, hy⟩ : ∃ z, wrap64 (t - 14400) = z := ⟨_, rfl⟩
  rw [hx] at h1
  rw [hy] at h2
  replace h20 := Lib.hid h20
  have HB0 := Lib.hid (Below.refl w.heap.size w)
  go_enter Try.func3, Try.ntmps3
  go_wp2_with fail
  refine (head_any _).mono ?_
  rintro e u1 ⟨rfl, b1⟩
  have FL_1 := Lib.hid (HI0.out.step b1)
  clear HI0
  have HB2 := Lib.hid (keep2 b1 HB0.out)
  clear HB0 b1
  have g1 : decide ((l.length : Int) > 20) = false := by simp; have := h20.out; omega
  have g1b : decide ((20 : Int) < l.length) = false := by simp; have := h20.out; omega
  obtain ⟨nx, nb, hnx⟩ : ∃ x b, nxV l m = (x, b) := ⟨_, _, rfl⟩
  obtain ⟨vb, hvb⟩ : ∃ z, okL l = z := ⟨_, rfl⟩
  obtain ⟨qb, hqb⟩ : ∃ z, qui l m = z := ⟨_, rfl⟩
  obtain ⟨cl, hcl⟩ : ∃ z, cgV l f t = z := ⟨_, rfl⟩
  have HNX := Lib.hid hnx
  have HVB := Lib.hid hvb
  have HQB := Lib.hid hqb
  have HCL := Lib.hid hcl
  clear hnx hvb hqb hcl
  go_wp2_with fail
  refine (next_q _ l m _ _ HNX.out _ FL_1.out).mono ?_
  rintro e u2 ⟨rfl, b2⟩
  have FL_3 := Lib.hid (FL_1.out.step b2)
  clear FL_1
  have HB4 := Lib.hid (keep2 b2 HB2.out)
  clear HB2 b2
  go_wp2_with fail
  refine (rnext_q _ l m _ _ HNX.out _ FL_3.out).mono ?_
  rintro e u3 ⟨rfl, b3⟩
  have FL_5 := Lib.hid (FL_3.out.step b3)
  clear FL_3
  have HB6 := Lib.hid (keep2 b3 HB4.out)
  clear HB4 b3
  go_wp2_with fail
  refine (valid_q _ l _ FL_5.out _ HVB.out).mono ?_
  rintro e u4 ⟨rfl, b4⟩
  have FL_7 := Lib.hid (FL_5.out.step b4)
  clear FL_5
  have HB8 := Lib.hid (keep2 b4 HB6.out)
  clear HB6 b4
  go_wp2_with fail
  refine (rvalid_q _ l _ FL_7.out _ HVB.out).mono ?_
  rintro e u5 ⟨rfl, b5⟩
  have FL_9 := Lib.hid (FL_7.out.step b5)
  clear FL_7
  have HB10 := Lib.hid (keep2 b5 HB8.out)
  clear HB8 b5
  go_wp2_with fail
  refine (quiet_q _ l m _ HQB.out _ FL_9.out).mono ?_
  rintro e u6 ⟨rfl, b6⟩
  have FL_11 := Lib.hid (FL_9.out.step b6)
  clear FL_9
  have HB12 := Lib.hid (keep2 b6 HB10.out)
  clear HB10 b6
  go_wp2_with fail
  refine (rQuiet_q _ l m _ HQB.out _ FL_11.out).mono ?_
  rintro e u7 ⟨rfl, b7⟩
  have FL_13 := Lib.hid (FL_11.out.step b7)
  clear FL_11
  have HB14 := Lib.hid (keep2 b7 HB12.out)
  clear HB12 b7
  go_wp2_with fail
  refine (cg_q _ l f t _ HCL.out _ FL_13.out).mono ?_
  rintro e u8 ⟨ca, ck, rfl, hc, b8⟩
  have FL_15 := Lib.hid (FL_13.out.step b8)
  clear FL_13
  have HB16 := Lib.hid (keep2 b8 HB14.out)
  clear HB14 b8
  have FC_17 := Lib.hid (hc)
  clear hc
  go_wp2_with fail
  refine (rcg_q _ l f t _ HCL.out _ FL_15.out).mono ?_
  rintro e u9 ⟨da, dk, rfl, hd, b9⟩
  have FL_18 := Lib.hid (FL_15.out.step b9)
  clear FL_15
  have FC_19 := Lib.hid (FC_17.out.step b9)
  clear FC_17
  have HB20 := Lib.hid (keep2 b9 HB16.out)
  clear HB16 b9
  have FD_21 := Lib.hid (hd)
  clear hd
  go_wp2_with fail
  refine (same_q _ _ cl cl _ (eqC_self _) _ FC_19.out FD_21.out).mono ?_
  rintro e u10 ⟨rfl, b10⟩
  have FL_22 := Lib.hid (FL_18.out.step b10)
  clear FL_18
  have FC_23 := Lib.hid (FC_19.out.step b10)
  clear FC_19
  have FD_24 := Lib.hid (FD_21.out.step b10)
  clear FD_21
  have HB25 := Lib.hid (keep2 b10 HB20.out)
  clear HB20 b10
  go_wp2
  go_ret
  exact ⟨rfl, HB25.out⟩
theorem match_any (v : Value) (l : List (Int × Int)) (m f t : Int) (w : World) (h : WinsAt w v l) : Calls Try.prog 3 #[v, .int .i64 m, .int .i64 f, .int .i64 t] w fun e w' => e = .returned (.bool true) ∧ Below w.heap.size w w' := by
  by_cases h20 : l.length ≤ 20
  · by_cases h1 : f < wrap64 (t - 3000)
    · by_cases h2 : wrap64 (t - 14400) ≤ f
      · exact hm_b v l m f t w h h20 h1 h2
      · exact hm_d v l m f t w h h20 h1 h2
    · exact hm_c v l m f t w h h20 h1
  · exact hm_a v l m f t w h (by omega)
end Go.Proofs.Ytmejpmnipejpiaa
