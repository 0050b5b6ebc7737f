/- Law FrameForged, the walk. -/
import Derived.Test.YtebeaekiaikgmaaLdl
namespace Go.Proofs.Ytebeaekiaikgmaa
open Go.RowKit

set_option maxRecDepth 100000 in
set_option maxHeartbeats 8000000 in
theorem ff_nn (k1 k2 a b c d : Int) (sl : Value) (l : List Int) (t a' b' c' d' : Int) (sm : Value) (l' : List Int) (t' : Int) (w : World) (h : IntsAt w sl l) (h' : IntsAt w sm l') (hb : slB k1 a b c d l = false) (hb' : slB k2 a' b' c' d' l' = false) : Calls Try.prog 5 #[.int .i64 k1, .int .i64 k2, .agg #[.int .i64 a, .int .i64 b, .int .i64 c, .int .i64 d, sl, .int .i64 t], .agg #[.int .i64 a', .int .i64 b', .int .i64 c', .int .i64 d', sm, .int .i64 t']] w fun e w' => e = .returned (.bool true) ∧ Below w.heap.size w w' := by
  have HI0 := Lib.hid h
  have HJ0 := Lib.hid h'
  obtain ⟨sa, sc, rfl, hm, -⟩ := h
  obtain ⟨sb, sd, rfl, hm', -⟩ := h'
  unfold maxLen at hm hm'
  replace hb := Lib.hid hb
  replace hb' := Lib.hid hb'
  have HB0 := Lib.hid (Below.refl w.heap.size w)
  go_enter Try.func5, Try.ntmps5
  have FI_1 := Lib.hid (HI0.out.step (al w (.cells #[.int .i64 a, .int .i64 b, .int .i64 c, .int .i64 d, .slice sa l.length sc, .int .i64 t] 24)))
  clear HI0
  have FJ_2 := Lib.hid (HJ0.out.step (al w (.cells #[.int .i64 a, .int .i64 b, .int .i64 c, .int .i64 d, .slice sa l.length sc, .int .i64 t] 24)))
  clear HJ0
  have FF_3 := Lib.hid (Cs.new w (w.heap.size) #[.int .i64 a, .int .i64 b, .int .i64 c, .int .i64 d, .slice sa l.length sc, .int .i64 t] 24 (by simp))
  have HB4 : Hid (Below w.heap.size w (w.alloc (.cells #[.int .i64 a, .int .i64 b, .int .i64 c, .int .i64 d, .slice sa l.length sc, .int .i64 t] 24))) := HB0.out.alloc HB0.out.size _
  clear HB0
  have FI_5 := Lib.hid (FI_1.out.step (al (w.alloc (.cells #[.int .i64 a, .int .i64 b, .int .i64 c, .int .i64 d, .slice sa l.length sc, .int .i64 t] 24)) (.cells #[.int .i64 a', .int .i64 b', .int .i64 c', .int .i64 d', .slice sb l'.length sd, .int .i64 t'] 24)))
  clear FI_1
  have FJ_6 := Lib.hid (FJ_2.out.step (al (w.alloc (.cells #[.int .i64 a, .int .i64 b, .int .i64 c, .int .i64 d, .slice sa l.length sc, .int .i64 t] 24)) (.cells #[.int .i64 a', .int .i64 b', .int .i64 c', .int .i64 d', .slice sb l'.length sd, .int .i64 t'] 24)))
  clear FJ_2
  have FF_7 := Lib.hid (FF_3.out.step (al (w.alloc (.cells #[.int .i64 a, .int .i64 b, .int .i64 c, .int .i64 d, .slice sa l.length sc, .int .i64 t] 24)) (.cells #[.int .i64 a', .int .i64 b', .int .i64 c', .int .i64 d', .slice sb l'.length sd, .int .i64 t'] 24)))
  clear FF_3
  have FG_8 := Lib.hid (Cs.new (w.alloc (.cells #[.int .i64 a, .int .i64 b, .int .i64 c, .int .i64 d, .slice sa l.length sc, .int .i64 t] 24)) (w.heap.size + 1) #[.int .i64 a', .int .i64 b', .int .i64 c', .int .i64 d', .slice sb l'.length sd, .int .i64 t'] 24 (by simp))
  have HB9 : Hid (Below w.heap.size w ((w.alloc (.cells #[.int .i64 a, .int .i64 b, .int .i64 c, .int .i64 d, .slice sa l.length sc, .int .i64 t] 24)).alloc (.cells #[.int .i64 a', .int .i64 b', .int .i64 c', .int .i64 d', .slice sb l'.length sd, .int .i64 t'] 24))) := HB4.out.alloc HB4.out.size _
  clear HB4
  go_wp2_with fail
  refine (head_any _).mono ?_
  rintro e u1 ⟨rfl, b1⟩
  have FI_10 := Lib.hid (FI_5.out.step b1)
  clear FI_5
  have FJ_11 := Lib.hid (FJ_6.out.step b1)
  clear FJ_6
  have FF_12 := Lib.hid (FF_7.out.step b1)
  clear FF_7
  have FG_13 := Lib.hid (FG_8.out.step b1)
  clear FG_8
  have HB14 := Lib.hid (keep2 b1 HB9.out)
  clear HB9 b1
  have xF0 := FF_12.out.c 0 rfl
  have xF1 := FF_12.out.c 1 rfl
  have xF2 := FF_12.out.c 2 rfl
  have xF3 := FF_12.out.c 3 rfl
  have xF4 := FF_12.out.c 4 rfl
  have xF5 := FF_12.out.c 5 rfl
  have xzF := FF_12.out.2.2
  go_wp2_with fail
  refine (seal_bad k1 a b c d _ l t _ FI_10.out hb.out).mono ?_
  rintro e u2 ⟨u, rfl, hu, b2⟩
  clear xF0 xF1 xF2 xF3 xF4 xF5 xzF
  have FI_15 := Lib.hid (FI_10.out.step b2)
  clear FI_10
  have FJ_16 := Lib.hid (FJ_11.out.step b2)
  clear FJ_11
  have FF_17 := Lib.hid (FF_12.out.step b2)
  clear FF_12
  have FG_18 := Lib.hid (FG_13.out.step b2)
  clear FG_13
  have HB19 := Lib.hid (keep2 b2 HB14.out)
  clear HB14 b2
  have FP_20 := Lib.hid (hu)
  obtain ⟨Pa, Pc, rfl, -, -⟩ := hu
  rw [show ([] : List Int).length = 0 from rfl]
  have xG0 := FG_18.out.c 0 rfl
  have xG1 := FG_18.out.c 1 rfl
  have xG2 := FG_18.out.c 2 rfl
  have xG3 := FG_18.out.c 3 rfl
  have xG4 := FG_18.out.c 4 rfl
  have xG5 := FG_18.out.c 5 rfl
  have xzG := FG_18.out.2.2
  go_wp2_with fail
  have FI_21 := Lib.hid (FI_15.out.step (al u2 (.cells #[.int .i64 0, .int .i64 0, .int .i64 0, .int .i64 0, .slice Pa 0 Pc, .int .i64 0] 24)))
  clear FI_15
  have FJ_22 := Lib.hid (FJ_16.out.step (al u2 (.cells #[.int .i64 0, .int .i64 0, .int .i64 0, .int .i64 0, .slice Pa 0 Pc, .int .i64 0] 24)))
  clear FJ_16
  have FF_23 := Lib.hid (FF_17.out.step (al u2 (.cells #[.int .i64 0, .int .i64 0, .int .i64 0, .int .i64 0, .slice Pa 0 Pc, .int .i64 0] 24)))
  clear FF_17
  have FG_24 := Lib.hid (FG_18.out.step (al u2 (.cells #[.int .i64 0, .int .i64 0, .int .i64 0, .int .i64 0, .slice Pa 0 Pc, .int .i64 0] 24)))
  clear FG_18
  have FP_25 := Lib.hid (FP_20.out.step (al u2 (.cells #[.int .i64 0, .int .i64 0, .int .i64 0, .int .i64 0, .slice Pa 0 Pc, .int .i64 0] 24)))
  clear FP_20
  have FS_26 := Lib.hid (Cs.new u2 (u2.heap.size) #[.int .i64 0, .int .i64 0, .int .i64 0, .int .i64 0, .slice Pa 0 Pc, .int .i64 0] 24 (by simp))
  have HB27 : Hid (Below w.heap.size w (u2.alloc (.cells #[.int .i64 0, .int .i64 0, .int .i64 0, .int .i64 0, .slice Pa 0 Pc, .int .i64 0] 24))) := HB19.out.alloc HB19.out.size _
  clear HB19
  refine (seal_bad k2 a' b' c' d' _ l' t' _ FJ_22.out hb'.out).mono ?_
  rintro e u3 ⟨u, rfl, hu, b3⟩
  clear xG0 xG1 xG2 xG3 xG4 xG5 xzG
  have FI_28 := Lib.hid (FI_21.out.step b3)
  clear FI_21
  have FJ_29 := Lib.hid (FJ_22.out.step b3)
  clear FJ_22
  have FF_30 := Lib.hid (FF_23.out.step b3)
  clear FF_23
  have FG_31 := Lib.hid (FG_24.out.step b3)
  clear FG_24
  have FP_32 := Lib.hid (FP_25.out.step b3)
  clear FP_25
  have FS_33 := Lib.hid (FS_26.out.step b3)
  clear FS_26
  have HB34 := Lib.hid (keep2 b3 HB27.out)
  clear HB27 b3
  have FQ_35 := Lib.hid (hu)
  obtain ⟨Qa, Qc, rfl, -, -⟩ := hu
  rw [show ([] : List Int).length = 0 from rfl]
  have xF4 := FF_30.out.c 4 rfl
  have xzF := FF_30.out.2.2
  have xG4 := FG_31.out.c 4 rfl
  have xzG := FG_31.out.2.2
  have HZ9 := Lib.hid (HB34.out.alloc HB34.out.size (.cells #[.int .i64 0, .int .i64 0, .int .i64 0, .int .i64 0, .slice Qa 0 Qc, .int .i64 0] 24))
  by_cases h4 : 32 < l.length
  · have g1 : decide ((l.length : Int) > 32) = true := by simp; omega
    have g1b : decide ((32 : Int) < l.length) = true := by simp; omega
    go_wp2
    go_ret
    exact ⟨rfl, HZ9.out⟩
  · by_cases h5 : 32 < l'.length
    · have g1 : decide ((l.length : Int) > 32) = false := by simp; omega
      have g1b : decide ((32 : Int) < l.length) = false := by simp; omega
      have g2 : decide ((l'.length : Int) > 32) = true := by simp; omega
      have g2b : decide ((32 : Int) < l'.length) = true := by simp; omega
      go_wp2
      go_ret
      exact ⟨rfl, HZ9.out⟩
    · have g1 : decide ((l.length : Int) > 32) = false := by simp; omega
      have g1b : decide ((32 : Int) < l.length) = false := by simp; omega
      have g2 : decide ((l'.length : Int) > 32) = false := by simp; omega
      have g2b : decide ((32 : Int) < l'.length) = false := by simp; omega
      go_wp2
      go_ret
      exact ⟨rfl, HZ9.out⟩
set_option maxRecDepth 100000 in
set_option maxHeartbeats 8000000 in
theorem ff_ny (k1 k2 a b c d : Int) (sl : Value) (l : List Int) (t a' b' c' d' : Int) (sm : Value) (l' : List Int) (t' : Int) (w : World) (h : IntsAt w sl l) (h' : IntsAt w sm l') (hb : slB k1 a b c d l = false) (hb' : slB k2 a' b' c' d' l' = true) : Calls Try.prog 5 #[.int .i64 k1, .int .i64 k2, .agg #[.int .i64 a, .int .i64 b, .int .i64 c, .int .i64 d, sl, .int .i64 t], .agg #[.int .i64 a', .int .i64 b', .int .i64 c', .int .i64 d', sm, .int .i64 t']] w fun e w' => e = .returned (.bool true) ∧ Below w.heap.size w w' := by
  have HI0 := Lib.hid h
  have HJ0 := Lib.hid h'
  obtain ⟨sa, sc, rfl, hm, -⟩ := h
  obtain ⟨sb, sd, rfl, hm', -⟩ := h'
  unfold maxLen at hm hm'
  replace hb := Lib.hid hb
  replace hb' := Lib.hid hb'
  have HB0 := Lib.hid (Below.refl w.heap.size w)
  go_enter Try.func5, Try.ntmps5
  have FI_1 := Lib.hid (HI0.out.step (al w (.cells #[.int .i64 a, .int .i64 b, .int .i64 c, .int .i64 d, .slice sa l.length sc, .int .i64 t] 24)))
  clear HI0
  have FJ_2 := Lib.hid (HJ0.out.step (al w (.cells #[.int .i64 a, .int .i64 b, .int .i64 c, .int .i64 d, .slice sa l.length sc, .int .i64 t] 24)))
  clear HJ0
  have FF_3 := Lib.hid (Cs.new w (w.heap.size) #[.int .i64 a, .int .i64 b, .int .i64 c, .int .i64 d, .slice sa l.length sc, .int .i64 t] 24 (by simp))
  have HB4 : Hid (Below w.heap.size w (w.alloc (.cells #[.int .i64 a, .int .i64 b, .int .i64 c, .int .i64 d, .slice sa l.length sc, .int .i64 t] 24))) := HB0.out.alloc HB0.out.size _
  clear HB0
  have FI_5 := Lib.hid (FI_1.out.step (al (w.alloc (.cells #[.int .i64 a, .int .i64 b, .int .i64 c, .int .i64 d, .slice sa l.length sc, .int .i64 t] 24)) (.cells #[.int .i64 a', .int .i64 b', .int .i64 c', .int .i64 d', .slice sb l'.length sd, .int .i64 t'] 24)))
  clear FI_1
  have FJ_6 := Lib.hid (FJ_2.out.step (al (w.alloc (.cells #[.int .i64 a, .int .i64 b, .int .i64 c, .int .i64 d, .slice sa l.length sc, .int .i64 t] 24)) (.cells #[.int .i64 a', .int .i64 b', .int .i64 c', .int .i64 d', .slice sb l'.length sd, .int .i64 t'] 24)))
  clear FJ_2
  have FF_7 := Lib.hid (FF_3.out.step (al (w.alloc (.cells #[.int .i64 a, .int .i64 b, .int .i64 c, .int .i64 d, .slice sa l.length sc, .int .i64 t] 24)) (.cells #[.int .i64 a', .int .i64 b', .int .i64 c', .int .i64 d', .slice sb l'.length sd, .int .i64 t'] 24)))
  clear FF_3
  have FG_8 := Lib.hid (Cs.new (w.alloc (.cells #[.int .i64 a, .int .i64 b, .int .i64 c, .int .i64 d, .slice sa l.length sc, .int .i64 t] 24)) (w.heap.size + 1) #[.int .i64 a', .int .i64 b', .int .i64 c', .int .i64 d', .slice sb l'.length sd, .int .i64 t'] 24 (by simp))
  have HB9 : Hid (Below w.heap.size w ((w.alloc (.cells #[.int .i64 a, .int .i64 b, .int .i64 c, .int .i64 d, .slice sa l.length sc, .int .i64 t] 24)).alloc (.cells #[.int .i64 a', .int .i64 b', .int .i64 c', .int .i64 d', .slice sb l'.length sd, .int .i64 t'] 24))) := HB4.out.alloc HB4.out.size _
  clear HB4
  go_wp2_with fail
  refine (head_any _).mono ?_
  rintro e u1 ⟨rfl, b1⟩
  have FI_10 := Lib.hid (FI_5.out.step b1)
  clear FI_5
  have FJ_11 := Lib.hid (FJ_6.out.step b1)
  clear FJ_6
  have FF_12 := Lib.hid (FF_7.out.step b1)
  clear FF_7
  have FG_13 := Lib.hid (FG_8.out.step b1)
  clear FG_8
  have HB14 := Lib.hid (keep2 b1 HB9.out)
  clear HB9 b1
  have xF0 := FF_12.out.c 0 rfl
  have xF1 := FF_12.out.c 1 rfl
  have xF2 := FF_12.out.c 2 rfl
  have xF3 := FF_12.out.c 3 rfl
  have xF4 := FF_12.out.c 4 rfl
  have xF5 := FF_12.out.c 5 rfl
  have xzF := FF_12.out.2.2
  go_wp2_with fail
  refine (seal_bad k1 a b c d _ l t _ FI_10.out hb.out).mono ?_
  rintro e u2 ⟨u, rfl, hu, b2⟩
  clear xF0 xF1 xF2 xF3 xF4 xF5 xzF
  have FI_15 := Lib.hid (FI_10.out.step b2)
  clear FI_10
  have FJ_16 := Lib.hid (FJ_11.out.step b2)
  clear FJ_11
  have FF_17 := Lib.hid (FF_12.out.step b2)
  clear FF_12
  have FG_18 := Lib.hid (FG_13.out.step b2)
  clear FG_13
  have HB19 := Lib.hid (keep2 b2 HB14.out)
  clear HB14 b2
  have FP_20 := Lib.hid (hu)
  obtain ⟨Pa, Pc, rfl, -, -⟩ := hu
  rw [show ([] : List Int).length = 0 from rfl]
  have xG0 := FG_18.out.c 0 rfl
  have xG1 := FG_18.out.c 1 rfl
  have xG2 := FG_18.out.c 2 rfl
  have xG3 := FG_18.out.c 3 rfl
  have xG4 := FG_18.out.c 4 rfl
  have xG5 := FG_18.out.c 5 rfl
  have xzG := FG_18.out.2.2
  go_wp2_with fail
  have FI_21 := Lib.hid (FI_15.out.step (al u2 (.cells #[.int .i64 0, .int .i64 0, .int .i64 0, .int .i64 0, .slice Pa 0 Pc, .int .i64 0] 24)))
  clear FI_15
  have FJ_22 := Lib.hid (FJ_16.out.step (al u2 (.cells #[.int .i64 0, .int .i64 0, .int .i64 0, .int .i64 0, .slice Pa 0 Pc, .int .i64 0] 24)))
  clear FJ_16
  have FF_23 := Lib.hid (FF_17.out.step (al u2 (.cells #[.int .i64 0, .int .i64 0, .int .i64 0, .int .i64 0, .slice Pa 0 Pc, .int .i64 0] 24)))
  clear FF_17
  have FG_24 := Lib.hid (FG_18.out.step (al u2 (.cells #[.int .i64 0, .int .i64 0, .int .i64 0, .int .i64 0, .slice Pa 0 Pc, .int .i64 0] 24)))
  clear FG_18
  have FP_25 := Lib.hid (FP_20.out.step (al u2 (.cells #[.int .i64 0, .int .i64 0, .int .i64 0, .int .i64 0, .slice Pa 0 Pc, .int .i64 0] 24)))
  clear FP_20
  have FS_26 := Lib.hid (Cs.new u2 (u2.heap.size) #[.int .i64 0, .int .i64 0, .int .i64 0, .int .i64 0, .slice Pa 0 Pc, .int .i64 0] 24 (by simp))
  have HB27 : Hid (Below w.heap.size w (u2.alloc (.cells #[.int .i64 0, .int .i64 0, .int .i64 0, .int .i64 0, .slice Pa 0 Pc, .int .i64 0] 24))) := HB19.out.alloc HB19.out.size _
  clear HB19
  refine (seal_good k2 a' b' c' d' _ l' t' _ FJ_22.out hb'.out).mono ?_
  rintro e u3 ⟨u, rfl, hu, b3⟩
  clear xG0 xG1 xG2 xG3 xG4 xG5 xzG
  have FI_28 := Lib.hid (FI_21.out.step b3)
  clear FI_21
  have FJ_29 := Lib.hid (FJ_22.out.step b3)
  clear FJ_22
  have FF_30 := Lib.hid (FF_23.out.step b3)
  clear FF_23
  have FG_31 := Lib.hid (FG_24.out.step b3)
  clear FG_24
  have FP_32 := Lib.hid (FP_25.out.step b3)
  clear FP_25
  have FS_33 := Lib.hid (FS_26.out.step b3)
  clear FS_26
  have HB34 := Lib.hid (keep2 b3 HB27.out)
  clear HB27 b3
  obtain ⟨R, hR⟩ : ∃ z, tgF k2 a' b' c' d' l' = z := ⟨_, rfl⟩
  rw [hR]
  have HR := Lib.hid hR
  clear hR
  have FQ_35 := Lib.hid (hu)
  obtain ⟨Qa, Qc, rfl, -, -⟩ := hu
  have xF4 := FF_30.out.c 4 rfl
  have xzF := FF_30.out.2.2
  have xG4 := FG_31.out.c 4 rfl
  have xzG := FG_31.out.2.2
  have HZ9 := Lib.hid (HB34.out.alloc HB34.out.size (.cells #[.int .i64 a', .int .i64 b', .int .i64 c', .int .i64 d', .slice Qa l'.length Qc, .int .i64 R] 24))
  by_cases h4 : 32 < l.length
  · have g1 : decide ((l.length : Int) > 32) = true := by simp; omega
    have g1b : decide ((32 : Int) < l.length) = true := by simp; omega
    go_wp2
    go_ret
    exact ⟨rfl, HZ9.out⟩
  · by_cases h5 : 32 < l'.length
    · have g1 : decide ((l.length : Int) > 32) = false := by simp; omega
      have g1b : decide ((32 : Int) < l.length) = false := by simp; omega
      have g2 : decide ((l'.length : Int) > 32) = true := by simp; omega
      have g2b : decide ((32 : Int) < l'.length) = true := by simp; omega
      go_wp2
      go_ret
      exact ⟨rfl, HZ9.out⟩
    · have g1 : decide ((l.length : Int) > 32) = false := by simp; omega
      have g1b : decide ((32 : Int) < l.length) = false := by simp; omega
      have g2 : decide ((l'.length : Int) > 32) = false := by simp; omega
      have g2b : decide ((32 : Int) < l'.length) = false := by simp; omega
      go_wp2
      go_ret
      exact ⟨rfl, HZ9.out⟩
set_option maxRecDepth 100000 in
set_option maxHeartbeats 8000000 in
theorem ff_yn (k1 k2 a b c d : Int) (sl : Value) (l : List Int) (t a' b' c' d' : Int) (sm : Value) (l' : List Int) (t' : Int) (w : World) (h : IntsAt w sl l) (h' : IntsAt w sm l') (hb : slB k1 a b c d l = true) (hb' : slB k2 a' b' c' d' l' = false) : Calls Try.prog 5 #[.int .i64 k1, .int .i64 k2, .agg #[.int .i64 a, .int .i64 b, .int .i64 c, .int .i64 d, sl, .int .i64 t], .agg #[.int .i64 a', .int .i64 b', .int .i64 c', .int .i64 d', sm, .int .i64 t']] w fun e w' => e = .returned (.bool true) ∧ Below w.heap.size w w' := by
  have HI0 := Lib.hid h
  have HJ0 := Lib.hid h'
  obtain ⟨sa, sc, rfl, hm, -⟩ := h
  obtain ⟨sb, sd, rfl, hm', -⟩ := h'
  unfold maxLen at hm hm'
  replace hb := Lib.hid hb
  replace hb' := Lib.hid hb'
  have HB0 := Lib.hid (Below.refl w.heap.size w)
  go_enter Try.func5, Try.ntmps5
  have FI_1 := Lib.hid (HI0.out.step (al w (.cells #[.int .i64 a, .int .i64 b, .int .i64 c, .int .i64 d, .slice sa l.length sc, .int .i64 t] 24)))
  clear HI0
  have FJ_2 := Lib.hid (HJ0.out.step (al w (.cells #[.int .i64 a, .int .i64 b, .int .i64 c, .int .i64 d, .slice sa l.length sc, .int .i64 t] 24)))
  clear HJ0
  have FF_3 := Lib.hid (Cs.new w (w.heap.size) #[.int .i64 a, .int .i64 b, .int .i64 c, .int .i64 d, .slice sa l.length sc, .int .i64 t] 24 (by simp))
  have HB4 : Hid (Below w.heap.size w (w.alloc (.cells #[.int .i64 a, .int .i64 b, .int .i64 c, .int .i64 d, .slice sa l.length sc, .int .i64 t] 24))) := HB0.out.alloc HB0.out.size _
  clear HB0
  have FI_5 := Lib.hid (FI_1.out.step (al (w.alloc (.cells #[.int .i64 a, .int .i64 b, .int .i64 c, .int .i64 d, .slice sa l.length sc, .int .i64 t] 24)) (.cells #[.int .i64 a', .int .i64 b', .int .i64 c', .int .i64 d', .slice sb l'.length sd, .int .i64 t'] 24)))
  clear FI_1
  have FJ_6 := Lib.hid (FJ_2.out.step (al (w.alloc (.cells #[.int .i64 a, .int .i64 b, .int .i64 c, .int .i64 d, .slice sa l.length sc, .int .i64 t] 24)) (.cells #[.int .i64 a', .int .i64 b', .int .i64 c', .int .i64 d', .slice sb l'.length sd, .int .i64 t'] 24)))
  clear FJ_2
  have FF_7 := Lib.hid (FF_3.out.step (al (w.alloc (.cells #[.int .i64 a, .int .i64 b, .int .i64 c, .int .i64 d, .slice sa l.length sc, .int .i64 t] 24)) (.cells #[.int .i64 a', .int .i64 b', .int .i64 c', .int .i64 d', .slice sb l'.length sd, .int .i64 t'] 24)))
  clear FF_3
  have FG_8 := Lib.hid (Cs.new (w.alloc (.cells #[.int .i64 a, .int .i64 b, .int .i64 c, .int .i64 d, .slice sa l.length sc, .int .i64 t] 24)) (w.heap.size + 1) #[.int .i64 a', .int .i64 b', .int .i64 c', .int .i64 d', .slice sb l'.length sd, .int .i64 t'] 24 (by simp))
  have HB9 : Hid (Below w.heap.size w ((w.alloc (.cells #[.int .i64 a, .int .i64 b, .int .i64 c, .int .i64 d, .slice sa l.length sc, .int .i64 t] 24)).alloc (.cells #[.int .i64 a', .int .i64 b', .int .i64 c', .int .i64 d', .slice sb l'.length sd, .int .i64 t'] 24))) := HB4.out.alloc HB4.out.size _
  clear HB4
  go_wp2_with fail
  refine (head_any _).mono ?_
  rintro e u1 ⟨rfl, b1⟩
  have FI_10 := Lib.hid (FI_5.out.step b1)
  clear FI_5
  have FJ_11 := Lib.hid (FJ_6.out.step b1)
  clear FJ_6
  have FF_12 := Lib.hid (FF_7.out.step b1)
  clear FF_7
  have FG_13 := Lib.hid (FG_8.out.step b1)
  clear FG_8
  have HB14 := Lib.hid (keep2 b1 HB9.out)
  clear HB9 b1
  have xF0 := FF_12.out.c 0 rfl
  have xF1 := FF_12.out.c 1 rfl
  have xF2 := FF_12.out.c 2 rfl
  have xF3 := FF_12.out.c 3 rfl
  have xF4 := FF_12.out.c 4 rfl
  have xF5 := FF_12.out.c 5 rfl
  have xzF := FF_12.out.2.2
  go_wp2_with fail
  refine (seal_good k1 a b c d _ l t _ FI_10.out hb.out).mono ?_
  rintro e u2 ⟨u, rfl, hu, b2⟩
  clear xF0 xF1 xF2 xF3 xF4 xF5 xzF
  have FI_15 := Lib.hid (FI_10.out.step b2)
  clear FI_10
  have FJ_16 := Lib.hid (FJ_11.out.step b2)
  clear FJ_11
  have FF_17 := Lib.hid (FF_12.out.step b2)
  clear FF_12
  have FG_18 := Lib.hid (FG_13.out.step b2)
  clear FG_13
  have HB19 := Lib.hid (keep2 b2 HB14.out)
  clear HB14 b2
  obtain ⟨T, hT⟩ : ∃ z, tgF k1 a b c d l = z := ⟨_, rfl⟩
  rw [hT]
  have HT := Lib.hid hT
  clear hT
  have FP_20 := Lib.hid (hu)
  obtain ⟨Pa, Pc, rfl, -, -⟩ := hu
  have xG0 := FG_18.out.c 0 rfl
  have xG1 := FG_18.out.c 1 rfl
  have xG2 := FG_18.out.c 2 rfl
  have xG3 := FG_18.out.c 3 rfl
  have xG4 := FG_18.out.c 4 rfl
  have xG5 := FG_18.out.c 5 rfl
  have xzG := FG_18.out.2.2
  go_wp2_with fail
  have FI_21 := Lib.hid (FI_15.out.step (al u2 (.cells #[.int .i64 a, .int .i64 b, .int .i64 c, .int .i64 d, .slice Pa l.length Pc, .int .i64 T] 24)))
  clear FI_15
  have FJ_22 := Lib.hid (FJ_16.out.step (al u2 (.cells #[.int .i64 a, .int .i64 b, .int .i64 c, .int .i64 d, .slice Pa l.length Pc, .int .i64 T] 24)))
  clear FJ_16
  have FF_23 := Lib.hid (FF_17.out.step (al u2 (.cells #[.int .i64 a, .int .i64 b, .int .i64 c, .int .i64 d, .slice Pa l.length Pc, .int .i64 T] 24)))
  clear FF_17
  have FG_24 := Lib.hid (FG_18.out.step (al u2 (.cells #[.int .i64 a, .int .i64 b, .int .i64 c, .int .i64 d, .slice Pa l.length Pc, .int .i64 T] 24)))
  clear FG_18
  have FP_25 := Lib.hid (FP_20.out.step (al u2 (.cells #[.int .i64 a, .int .i64 b, .int .i64 c, .int .i64 d, .slice Pa l.length Pc, .int .i64 T] 24)))
  clear FP_20
  have FS_26 := Lib.hid (Cs.new u2 (u2.heap.size) #[.int .i64 a, .int .i64 b, .int .i64 c, .int .i64 d, .slice Pa l.length Pc, .int .i64 T] 24 (by simp))
  have HB27 : Hid (Below w.heap.size w (u2.alloc (.cells #[.int .i64 a, .int .i64 b, .int .i64 c, .int .i64 d, .slice Pa l.length Pc, .int .i64 T] 24))) := HB19.out.alloc HB19.out.size _
  clear HB19
  refine (seal_bad k2 a' b' c' d' _ l' t' _ FJ_22.out hb'.out).mono ?_
  rintro e u3 ⟨u, rfl, hu, b3⟩
  clear xG0 xG1 xG2 xG3 xG4 xG5 xzG
  have FI_28 := Lib.hid (FI_21.out.step b3)
  clear FI_21
  have FJ_29 := Lib.hid (FJ_22.out.step b3)
  clear FJ_22
  have FF_30 := Lib.hid (FF_23.out.step b3)
  clear FF_23
  have FG_31 := Lib.hid (FG_24.out.step b3)
  clear FG_24
  have FP_32 := Lib.hid (FP_25.out.step b3)
  clear FP_25
  have FS_33 := Lib.hid (FS_26.out.step b3)
  clear FS_26
  have HB34 := Lib.hid (keep2 b3 HB27.out)
  clear HB27 b3
  have FQ_35 := Lib.hid (hu)
  obtain ⟨Qa, Qc, rfl, -, -⟩ := hu
  rw [show ([] : List Int).length = 0 from rfl]
  have xF4 := FF_30.out.c 4 rfl
  have xzF := FF_30.out.2.2
  have xG4 := FG_31.out.c 4 rfl
  have xzG := FG_31.out.2.2
  have HZ9 := Lib.hid (HB34.out.alloc HB34.out.size (.cells #[.int .i64 0, .int .i64 0, .int .i64 0, .int .i64 0, .slice Qa 0 Qc, .int .i64 0] 24))
  by_cases h4 : 32 < l.length
  · have g1 : decide ((l.length : Int) > 32) = true := by simp; omega
    have g1b : decide ((32 : Int) < l.length) = true := by simp; omega
    go_wp2
    go_ret
    exact ⟨rfl, HZ9.out⟩
  · by_cases h5 : 32 < l'.length
    · have g1 : decide ((l.length : Int) > 32) = false := by simp; omega
      have g1b : decide ((32 : Int) < l.length) = false := by simp; omega
      have g2 : decide ((l'.length : Int) > 32) = true := by simp; omega
      have g2b : decide ((32 : Int) < l'.length) = true := by simp; omega
      go_wp2
      go_ret
      exact ⟨rfl, HZ9.out⟩
    · have g1 : decide ((l.length : Int) > 32) = false := by simp; omega
      have g1b : decide ((32 : Int) < l.length) = false := by simp; omega
      have g2 : decide ((l'.length : Int) > 32) = false := by simp; omega
      have g2b : decide ((32 : Int) < l'.length) = false := by simp; omega
      go_wp2
      go_ret
      exact ⟨rfl, HZ9.out⟩
set_option maxRecDepth 100000 in
set_option maxHeartbeats 8000000 in
theorem ff_main (k1 k2 a b c d : Int) (sl : Value) (l : List Int) (t a' b' c' d' : Int) (sm : Value) (l' : List Int) (t' : Int) (w : World) (h : IntsAt w sl l) (h' : IntsAt w sm l') (hb : slB k1 a b c d l = true) (hb' : slB k2 a' b' c' d' l' = true) : Calls Try.prog 5 #[.int .i64 k1, .int .i64 k2, .agg #[.int .i64 a, .int .i64 b, .int .i64 c, .int .i64 d, sl, .int .i64 t], .agg #[.int .i64 a', .int .i64 b', .int .i64 c', .int .i64 d', sm, .int .i64 t']] w fun e w' => e = .returned (.bool true) ∧ Below w.heap.size w w' := by
  have HI0 := Lib.hid h
  have HJ0 := Lib.hid h'
  obtain ⟨sa, sc, rfl, hm, -⟩ := h
  obtain ⟨sb, sd, rfl, hm', -⟩ := h'
  unfold maxLen at hm hm'
  replace hb := Lib.hid hb
  replace hb' := Lib.hid hb'
  have HB0 := Lib.hid (Below.refl w.heap.size w)
  go_enter Try.func5, Try.ntmps5
  have FI_1 := Lib.hid (HI0.out.step (al w (.cells #[.int .i64 a, .int .i64 b, .int .i64 c, .int .i64 d, .slice sa l.length sc, .int .i64 t] 24)))
  clear HI0
  have FJ_2 := Lib.hid (HJ0.out.step (al w (.cells #[.int .i64 a, .int .i64 b, .int .i64 c, .int .i64 d, .slice sa l.length sc, .int .i64 t] 24)))
  clear HJ0
  have FF_3 := Lib.hid (Cs.new w (w.heap.size) #[.int .i64 a, .int .i64 b, .int .i64 c, .int .i64 d, .slice sa l.length sc, .int .i64 t] 24 (by simp))
  have HB4 : Hid (Below w.heap.size w (w.alloc (.cells #[.int .i64 a, .int .i64 b, .int .i64 c, .int .i64 d, .slice sa l.length sc, .int .i64 t] 24))) := HB0.out.alloc HB0.out.size _
  clear HB0
  have FI_5 := Lib.hid (FI_1.out.step (al (w.alloc (.cells #[.int .i64 a, .int .i64 b, .int .i64 c, .int .i64 d, .slice sa l.length sc, .int .i64 t] 24)) (.cells #[.int .i64 a', .int .i64 b', .int .i64 c', .int .i64 d', .slice sb l'.length sd, .int .i64 t'] 24)))
  clear FI_1
  have FJ_6 := Lib.hid (FJ_2.out.step (al (w.alloc (.cells #[.int .i64 a, .int .i64 b, .int .i64 c, .int .i64 d, .slice sa l.length sc, .int .i64 t] 24)) (.cells #[.int .i64 a', .int .i64 b', .int .i64 c', .int .i64 d', .slice sb l'.length sd, .int .i64 t'] 24)))
  clear FJ_2
  have FF_7 := Lib.hid (FF_3.out.step (al (w.alloc (.cells #[.int .i64 a, .int .i64 b, .int .i64 c, .int .i64 d, .slice sa l.length sc, .int .i64 t] 24)) (.cells #[.int .i64 a', .int .i64 b', .int .i64 c', .int .i64 d', .slice sb l'.length sd, .int .i64 t'] 24)))
  clear FF_3
  have FG_8 := Lib.hid (Cs.new (w.alloc (.cells #[.int .i64 a, .int .i64 b, .int .i64 c, .int .i64 d, .slice sa l.length sc, .int .i64 t] 24)) (w.heap.size + 1) #[.int .i64 a', .int .i64 b', .int .i64 c', .int .i64 d', .slice sb l'.length sd, .int .i64 t'] 24 (by simp))
  have HB9 : Hid (Below w.heap.size w ((w.alloc (.cells #[.int .i64 a, .int .i64 b, .int .i64 c, .int .i64 d, .slice sa l.length sc, .int .i64 t] 24)).alloc (.cells #[.int .i64 a', .int .i64 b', .int .i64 c', .int .i64 d', .slice sb l'.length sd, .int .i64 t'] 24))) := HB4.out.alloc HB4.out.size _
  clear HB4
  go_wp2_with fail
  refine (head_any _).mono ?_
  rintro e u1 ⟨rfl, b1⟩
  have FI_10 := Lib.hid (FI_5.out.step b1)
  clear FI_5
  have FJ_11 := Lib.hid (FJ_6.out.step b1)
  clear FJ_6
  have FF_12 := Lib.hid (FF_7.out.step b1)
  clear FF_7
  have FG_13 := Lib.hid (FG_8.out.step b1)
  clear FG_8
  have HB14 := Lib.hid (keep2 b1 HB9.out)
  clear HB9 b1
  have xF0 := FF_12.out.c 0 rfl
  have xF1 := FF_12.out.c 1 rfl
  have xF2 := FF_12.out.c 2 rfl
  have xF3 := FF_12.out.c 3 rfl
  have xF4 := FF_12.out.c 4 rfl
  have xF5 := FF_12.out.c 5 rfl
  have xzF := FF_12.out.2.2
  go_wp2_with fail
  refine (seal_good k1 a b c d _ l t _ FI_10.out hb.out).mono ?_
  rintro e u2 ⟨u, rfl, hu, b2⟩
  clear xF0 xF1 xF2 xF3 xF4 xF5 xzF
  have FI_15 := Lib.hid (FI_10.out.step b2)
  clear FI_10
  have FJ_16 := Lib.hid (FJ_11.out.step b2)
  clear FJ_11
  have FF_17 := Lib.hid (FF_12.out.step b2)
  clear FF_12
  have FG_18 := Lib.hid (FG_13.out.step b2)
  clear FG_13
  have HB19 := Lib.hid (keep2 b2 HB14.out)
  clear HB14 b2
  obtain ⟨T, hT⟩ : ∃ z, tgF k1 a b c d l = z := ⟨_, rfl⟩
  rw [hT]
  have HT := Lib.hid hT
  clear hT
  have FP_20 := Lib.hid (hu)
  obtain ⟨Pa, Pc, rfl, -, -⟩ := hu
  have xG0 := FG_18.out.c 0 rfl
  have xG1 := FG_18.out.c 1 rfl
  have xG2 := FG_18.out.c 2 rfl
  have xG3 := FG_18.out.c 3 rfl
  have xG4 := FG_18.out.c 4 rfl
  have xG5 := FG_18.out.c 5 rfl
  have xzG := FG_18.out.2.2
  go_wp2_with fail
  have FI_21 := Lib.hid (FI_15.out.step (al u2 (.cells #[.int .i64 a, .int .i64 b, .int .i64 c, .int .i64 d, .slice Pa l.length Pc, .int .i64 T] 24)))
  clear FI_15
  have FJ_22 := Lib.hid (FJ_16.out.step (al u2 (.cells #[.int .i64 a, .int .i64 b, .int .i64 c, .int .i64 d, .slice Pa l.length Pc, .int .i64 T] 24)))
  clear FJ_16
  have FF_23 := Lib.hid (FF_17.out.step (al u2 (.cells #[.int .i64 a, .int .i64 b, .int .i64 c, .int .i64 d, .slice Pa l.length Pc, .int .i64 T] 24)))
  clear FF_17
  have FG_24 := Lib.hid (FG_18.out.step (al u2 (.cells #[.int .i64 a, .int .i64 b, .int .i64 c, .int .i64 d, .slice Pa l.length Pc, .int .i64 T] 24)))
  clear FG_18
  have FP_25 := Lib.hid (FP_20.out.step (al u2 (.cells #[.int .i64 a, .int .i64 b, .int .i64 c, .int .i64 d, .slice Pa l.length Pc, .int .i64 T] 24)))
  clear FP_20
  have FS_26 := Lib.hid (Cs.new u2 (u2.heap.size) #[.int .i64 a, .int .i64 b, .int .i64 c, .int .i64 d, .slice Pa l.length Pc, .int .i64 T] 24 (by simp))
  have HB27 : Hid (Below w.heap.size w (u2.alloc (.cells #[.int .i64 a, .int .i64 b, .int .i64 c, .int .i64 d, .slice Pa l.length Pc, .int .i64 T] 24))) := HB19.out.alloc HB19.out.size _
  clear HB19
  refine (seal_good k2 a' b' c' d' _ l' t' _ FJ_22.out hb'.out).mono ?_
  rintro e u3 ⟨u, rfl, hu, b3⟩
  clear xG0 xG1 xG2 xG3 xG4 xG5 xzG
  have FI_28 := Lib.hid (FI_21.out.step b3)
  clear FI_21
  have FJ_29 := Lib.hid (FJ_22.out.step b3)
  clear FJ_22
  have FF_30 := Lib.hid (FF_23.out.step b3)
  clear FF_23
  have FG_31 := Lib.hid (FG_24.out.step b3)
  clear FG_24
  have FP_32 := Lib.hid (FP_25.out.step b3)
  clear FP_25
  have FS_33 := Lib.hid (FS_26.out.step b3)
  clear FS_26
  have HB34 := Lib.hid (keep2 b3 HB27.out)
  clear HB27 b3
  obtain ⟨R, hR⟩ : ∃ z, tgF k2 a' b' c' d' l' = z := ⟨_, rfl⟩
  rw [hR]
  have HR := Lib.hid hR
  clear hR
  have FQ_35 := Lib.hid (hu)
  obtain ⟨Qa, Qc, rfl, -, -⟩ := hu
  have xF4 := FF_30.out.c 4 rfl
  have xzF := FF_30.out.2.2
  have xG4 := FG_31.out.c 4 rfl
  have xzG := FG_31.out.2.2
  have h32 := Lib.hid (show l.length ≤ 32 from by have h := hb.out; unfold slB at h; rw [Bool.and_eq_true] at h; exact (va_parts h.2).2.2.2.2.2.1)
  have h33 := Lib.hid (show l'.length ≤ 32 from by have h := hb'.out; unfold slB at h; rw [Bool.and_eq_true] at h; exact (va_parts h.2).2.2.2.2.2.1)
  have g1 : decide ((l.length : Int) > 32) = false := by simp; have := h32.out; omega
  have g1b : decide ((32 : Int) < l.length) = false := by simp; have := h32.out; omega
  have g2 : decide ((l'.length : Int) > 32) = false := by simp; have := h33.out; omega
  have g2b : decide ((32 : Int) < l'.length) = false := by simp; have := h33.out; omega
  have HVL := Lib.hid (fun (hl : l' ≠ []) b o n c e => ints_lt FQ_35.out hl b o n c e)
  have HVP := Lib.hid (fun (hl : l ≠ []) b o n c e => ints_lt FP_32.out hl b o n c e)
  have xS0 := FS_33.out.c 0 rfl
  have xS1 := FS_33.out.c 1 rfl
  have xS2 := FS_33.out.c 2 rfl
  have xS3 := FS_33.out.c 3 rfl
  have xS4 := FS_33.out.c 4 rfl
  have xS5 := FS_33.out.c 5 rfl
  have xzS := FS_33.out.2.2
  go_wp2_with fail
  clear g1 g1b g2 g2b
  have HU3 := Lib.hid HB34.out.size
  have FI_36 := Lib.hid (FI_28.out.step (al u3 (.cells #[.int .i64 a', .int .i64 b', .int .i64 c', .int .i64 d', .slice Qa l'.length Qc, .int .i64 R] 24)))
  clear FI_28
  have FJ_37 := Lib.hid (FJ_29.out.step (al u3 (.cells #[.int .i64 a', .int .i64 b', .int .i64 c', .int .i64 d', .slice Qa l'.length Qc, .int .i64 R] 24)))
  clear FJ_29
  have FF_38 := Lib.hid (FF_30.out.step (al u3 (.cells #[.int .i64 a', .int .i64 b', .int .i64 c', .int .i64 d', .slice Qa l'.length Qc, .int .i64 R] 24)))
  clear FF_30
  have FG_39 := Lib.hid (FG_31.out.step (al u3 (.cells #[.int .i64 a', .int .i64 b', .int .i64 c', .int .i64 d', .slice Qa l'.length Qc, .int .i64 R] 24)))
  clear FG_31
  have FP_40 := Lib.hid (FP_32.out.step (al u3 (.cells #[.int .i64 a', .int .i64 b', .int .i64 c', .int .i64 d', .slice Qa l'.length Qc, .int .i64 R] 24)))
  clear FP_32
  have FS_41 := Lib.hid (FS_33.out.step (al u3 (.cells #[.int .i64 a', .int .i64 b', .int .i64 c', .int .i64 d', .slice Qa l'.length Qc, .int .i64 R] 24)))
  clear FS_33
  have FQ_42 := Lib.hid (FQ_35.out.step (al u3 (.cells #[.int .i64 a', .int .i64 b', .int .i64 c', .int .i64 d', .slice Qa l'.length Qc, .int .i64 R] 24)))
  clear FQ_35
  have FT_43 := Lib.hid (Cs.new u3 (u3.heap.size) #[.int .i64 a', .int .i64 b', .int .i64 c', .int .i64 d', .slice Qa l'.length Qc, .int .i64 R] 24 (by simp))
  have HB44 : Hid (Below w.heap.size w (u3.alloc (.cells #[.int .i64 a', .int .i64 b', .int .i64 c', .int .i64 d', .slice Qa l'.length Qc, .int .i64 R] 24))) := HB34.out.alloc HB34.out.size _
  clear HB34
  refine (conts_any a b c d _ l T _ FP_40.out (by have := h32.out; omega)).mono ?_
  rintro e u4 ⟨u, rfl, hu, b4⟩
  clear xF4 xzF xG4 xzG xS0 xS1 xS2 xS3 xS4 xS5 xzS
  have FI_45 := Lib.hid (FI_36.out.step b4)
  clear FI_36
  have FJ_46 := Lib.hid (FJ_37.out.step b4)
  clear FJ_37
  have FF_47 := Lib.hid (FF_38.out.step b4)
  clear FF_38
  have FG_48 := Lib.hid (FG_39.out.step b4)
  clear FG_39
  have FP_49 := Lib.hid (FP_40.out.step b4)
  clear FP_40
  have FS_50 := Lib.hid (FS_41.out.step b4)
  clear FS_41
  have FQ_51 := Lib.hid (FQ_42.out.step b4)
  clear FQ_42
  have FT_52 := Lib.hid (FT_43.out.step b4)
  clear FT_43
  have HB53 := Lib.hid (keep2 b4 HB44.out)
  clear HB44 b4
  have hcu := hu
  have FC_54 := Lib.hid (hu)
  obtain ⟨Ca, Cc, rfl, -, -⟩ := hcu
  clear hu
  go_wp2_with fail
  have HZA := Lib.hid (show u3.heap.size < u4.heap.size from FT_52.out.2.2)
  refine (rtg_any k1 _ (cts a b c d l) _ FC_54.out (by rw [cts_len]; have := h32.out; omega)).mono ?_
  rintro e u5 ⟨u, rfl, hu, b5⟩
  have FI_55 := Lib.hid (FI_45.out.step b5)
  clear FI_45
  have FJ_56 := Lib.hid (FJ_46.out.step b5)
  clear FJ_46
  have FF_57 := Lib.hid (FF_47.out.step b5)
  clear FF_47
  have FG_58 := Lib.hid (FG_48.out.step b5)
  clear FG_48
  have FP_59 := Lib.hid (FP_49.out.step b5)
  clear FP_49
  have FS_60 := Lib.hid (FS_50.out.step b5)
  clear FS_50
  have FQ_61 := Lib.hid (FQ_51.out.step b5)
  clear FQ_51
  have FT_62 := Lib.hid (FT_52.out.step b5)
  clear FT_52
  have FC_63 := Lib.hid (FC_54.out.step b5)
  clear FC_54
  have HB64 := Lib.hid (keep2 b5 HB53.out)
  clear HB53 b5
  clear FC_63
  have HNA := Lib.hid (fun b o n c (e : u = .slice (some ⟨b, o, none⟩) n c) => (show b ≠ u3.heap.size from by
    have h1 := row_own hu (k := b) (by rw [e]; rfl)
    have h2 := HZA.out
    omega))
  have hia : IntsAt u5 u (kcl k1 a b c d l) := ints_of_row hu
  clear hu
  have FA_65 := Lib.hid (hia)
  obtain ⟨Aa, Ac, rfl, -, -⟩ := hia
  have xT0 := FT_62.out.c 0 rfl
  have xT1 := FT_62.out.c 1 rfl
  have xT2 := FT_62.out.c 2 rfl
  have xT3 := FT_62.out.c 3 rfl
  have xT4 := FT_62.out.c 4 rfl
  have xT5 := FT_62.out.c 5 rfl
  have xzT := FT_62.out.2.2
  go_wp2_with fail
  refine (conts_any a' b' c' d' _ l' R _ FQ_61.out (by have := h33.out; omega)).mono ?_
  rintro e u6 ⟨u, rfl, hu, b6⟩
  clear xT0 xT1 xT2 xT3 xT4 xT5 xzT
  have FI_66 := Lib.hid (FI_55.out.step b6)
  clear FI_55
  have FJ_67 := Lib.hid (FJ_56.out.step b6)
  clear FJ_56
  have FF_68 := Lib.hid (FF_57.out.step b6)
  clear FF_57
  have FG_69 := Lib.hid (FG_58.out.step b6)
  clear FG_58
  have FP_70 := Lib.hid (FP_59.out.step b6)
  clear FP_59
  have FS_71 := Lib.hid (FS_60.out.step b6)
  clear FS_60
  have FQ_72 := Lib.hid (FQ_61.out.step b6)
  clear FQ_61
  have FT_73 := Lib.hid (FT_62.out.step b6)
  clear FT_62
  have FA_74 := Lib.hid (FA_65.out.step b6)
  clear FA_65
  have HB75 := Lib.hid (keep2 b6 HB64.out)
  clear HB64 b6
  have hcu := hu
  have FD_76 := Lib.hid (hu)
  obtain ⟨Da, Dc, rfl, -, -⟩ := hcu
  clear hu
  go_wp2_with fail
  have HZB := Lib.hid (show u3.heap.size < u6.heap.size from FT_73.out.2.2)
  refine (rtg_any k2 _ (cts a' b' c' d' l') _ FD_76.out (by rw [cts_len]; have := h33.out; omega)).mono ?_
  rintro e u7 ⟨u, rfl, hu, b7⟩
  have FI_77 := Lib.hid (FI_66.out.step b7)
  clear FI_66
  have FJ_78 := Lib.hid (FJ_67.out.step b7)
  clear FJ_67
  have FF_79 := Lib.hid (FF_68.out.step b7)
  clear FF_68
  have FG_80 := Lib.hid (FG_69.out.step b7)
  clear FG_69
  have FP_81 := Lib.hid (FP_70.out.step b7)
  clear FP_70
  have FS_82 := Lib.hid (FS_71.out.step b7)
  clear FS_71
  have FQ_83 := Lib.hid (FQ_72.out.step b7)
  clear FQ_72
  have FT_84 := Lib.hid (FT_73.out.step b7)
  clear FT_73
  have FA_85 := Lib.hid (FA_74.out.step b7)
  clear FA_74
  have FD_86 := Lib.hid (FD_76.out.step b7)
  clear FD_76
  have HB87 := Lib.hid (keep2 b7 HB75.out)
  clear HB75 b7
  clear FD_86
  have HNB := Lib.hid (fun b o n c (e : u = .slice (some ⟨b, o, none⟩) n c) => (show b ≠ u3.heap.size from by
    have h1 := row_own hu (k := b) (by rw [e]; rfl)
    have h2 := HZB.out
    omega))
  have hia : IntsAt u7 u (kcl k2 a' b' c' d' l') := ints_of_row hu
  clear hu
  have FB_88 := Lib.hid (hia)
  obtain ⟨Ba, Bc, rfl, -, -⟩ := hia
  obtain ⟨p, hp⟩ : ∃ z, kcl k1 a b c d l = z := ⟨_, rfl⟩
  obtain ⟨q, hq⟩ : ∃ z, kcl k2 a' b' c' d' l' = z := ⟨_, rfl⟩
  have HDP := Lib.hid (show Dg p = T by rw [← hp, kcl_dg]; exact HT.out)
  have HDQ := Lib.hid (show Dg q = R by rw [← hq, kcl_dg]; exact HR.out)
  have HPL := Lib.hid (show p.length = 7 + l.length by rw [← hp, kcl_len])
  have HQL := Lib.hid (show q.length = 7 + l'.length by rw [← hq, kcl_len])
  have HFF := Lib.hid (show l.length = l'.length → (dfN p q p.length = 1 → T ≠ R) ∧ (dfN p q p.length = 0 → T = R) from fun e => by
    rw [← hp, ← hq, ← HT.out, ← HR.out]
    exact forged_facts hb.out hb'.out e)
  rw [hp] at FA_85 HNA ⊢
  rw [hq] at FB_88 HNB ⊢
  clear hp hq
  clear FI_77
  clear FJ_78
  clear FF_79
  clear FG_80
  clear FP_81
  have xS0 := FS_82.out.c 0 rfl
  have xS1 := FS_82.out.c 1 rfl
  have xS2 := FS_82.out.c 2 rfl
  have xS3 := FS_82.out.c 3 rfl
  have xS4 := FS_82.out.c 4 rfl
  have xS5 := FS_82.out.c 5 rfl
  have xzS := FS_82.out.2.2
  have xT0 := FT_84.out.c 0 rfl
  have xfT0 := FT_84.out.f 0 (by simp)
  have xT1 := FT_84.out.c 1 rfl
  have xfT1 := FT_84.out.f 1 (by simp)
  have xT2 := FT_84.out.c 2 rfl
  have xfT2 := FT_84.out.f 2 (by simp)
  have xT3 := FT_84.out.c 3 rfl
  have xfT3 := FT_84.out.f 3 (by simp)
  have xT4 := FT_84.out.c 4 rfl
  have xfT4 := FT_84.out.f 4 (by simp)
  have xT5 := FT_84.out.c 5 rfl
  have xfT5 := FT_84.out.f 5 (by simp)
  have xzT := FT_84.out.2.2
  go_wp2_with fail
  clear xS0 xS1 xS2 xS3 xS4 xS5 xzS xT0 xfT0 xT1 xfT1 xT2 xfT2 xT3 xfT3 xT4 xfT4 xT5 xfT5 xzT
  clear FS_82
  clear FT_84
  have GQ := Lib.hid (ints_apart6 FQ_83.out (fun hl b o n c e => Nat.ne_of_lt (HVL.out hl b o n c e)) 5 (.int .i64 T))
  have GA := Lib.hid (ints_apart6 FA_85.out (fun _ b o n c e => HNA.out b o n c e) 5 (.int .i64 T))
  have GB := Lib.hid (ints_apart6 FB_88.out (fun _ b o n c e => HNB.out b o n c e) 5 (.int .i64 T))
  have GH := Lib.hid (HB87.out.setCell (p := ⟨u3.heap.size, 5, none⟩) HU3.out (.int .i64 T))
  clear FQ_83 FA_85 FB_88 HB87 HVL HVP HNA HNB HU3 HZA HZB
  refine (open_any k2 a' b' c' d' _ l' T _ GQ.out).mono ?_
  rintro e u8 ⟨rfl, b8⟩
  have FQ_89 := Lib.hid (GQ.out.step b8)
  clear GQ
  have FA_90 := Lib.hid (GA.out.step b8)
  clear GA
  have FB_91 := Lib.hid (GB.out.step b8)
  clear GB
  have HB92 := Lib.hid (keep2 b8 GH.out)
  clear GH b8
  clear FQ_89
  have HO := Lib.hid (op_sealed hb'.out T)
  rw [HR.out] at HO
  obtain ⟨eo, heo⟩ : ∃ z, opE k2 a' b' c' d' l' T = z := ⟨_, rfl⟩
  rw [heo] at HO ⊢
  clear heo
  have H32 := Lib.hid h32.out
  clear HT HR hb hb' h32 h33
  have HP8 := Lib.hid (show p.length ≤ 2000 from by have h1 := HPL.out; have h2 := H32.out; omega)
  by_cases hq : T = R
  · have e1 : (T == R) = true := by simpa using hq
    have e4 : (T = R) = True := by simpa using hq
    have hz : eo = 0 := HO.out.2 hq
    have e2 : (eo == 0) = true := by simpa using hz
    have e3 : (eo = 0) = True := by simpa using hz
    have HQQ := Lib.hid hq
    clear hq hz HO
    go_wp2_with fail
    refine (sum_any _ p _ FA_90.out).mono ?_
    rintro e w' ⟨rfl, rfl⟩
    rw [HDP.out]
    go_wp2_with fail
    refine (sum_any _ q _ FB_91.out).mono ?_
    rintro e w' ⟨rfl, rfl⟩
    rw [HDQ.out]
    by_cases hl : p.length = q.length
    · have e5 : ((p.length : Int) != (q.length : Int)) = false := by simp [hl]
      have e6 : ((p.length : Int) = (q.length : Int)) = True := by simp [hl]
      have HLL := Lib.hid hl
      have HFL := Lib.hid (HFF.out (by have h1 := HPL.out; have h2 := HQL.out; omega))
      have HP9 := Lib.hid (show p.length ≤ 2000 from HP8.out)
      clear hl HFF HPL HQL
      go_wp2_with fail
      clear e5 e6
      obtain ⟨pa, pc, hpa, -, hc⟩ := FA_90.out
      obtain ⟨rfl, rfl⟩ : Aa = pa ∧ Ac = pc := by simpa using hpa
      obtain ⟨qa, qc, hqa, -, hd⟩ := FB_91.out
      obtain ⟨rfl, rfl⟩ : Ba = qa ∧ Bc = qc := by simpa using hqa
      have HC := Lib.hid hc
      have HD := Lib.hid hd
      clear hpa hqa hc hd
      go_loopw [17, 18] (fun dv iv wr => ∃ k n : Nat, k ≤ p.length ∧ iv = .int .i64 k ∧ dv = .int .i64 (dfN p q k : Nat) ∧ wr = u8.drewN n) (fun _ iv _ => p.length - (intOf iv).toNat)
      case atStart => exact ⟨0, 0, by omega, rfl, rfl, rfl⟩
      case round =>
        obtain ⟨k, n, hk, rfl, rfl, rfl⟩ := hrel
        have HK := Lib.hid hk
        have hk9 : k ≤ 2000 := Nat.le_trans hk HP9.out
        by_cases hlt : k < p.length
        · obtain ⟨b1, o1, rfl, hcs⟩ := HC.out (by intro h; rw [h] at hlt; simp at hlt)
          have hlt' : k < q.length := by have := HLL.out; omega
          obtain ⟨b2, o2, rfl, hcs'⟩ := HD.out (by intro h; rw [h] at hlt'; simp at hlt')
          have hx := hcs k _ (getD_of hlt)
          have hx' := hcs' k _ (getD_of hlt')
          have HS := Lib.hid (show dfN p q (k + 1) = if p.getD k 0 = q.getD k 0 then dfN p q k else dfN p q k + 1 from rfl)
          have HDK := Lib.hid (df_le p q k)
          have HLT := Lib.hid hlt
          clear hcs hcs' hk
          obtain ⟨wq, hwq⟩ : ∃ wq, u8.drewN n = wq := ⟨_, rfl⟩
          have hx2 : wq.cell? ⟨b1, o1 + k, none⟩ = some (.int .i64 (p.getD k 0)) := by rw [← hwq]; exact hx
          have hx3 : wq.cell? ⟨b2, o2 + k, none⟩ = some (.int .i64 (q.getD k 0)) := by rw [← hwq]; exact hx'
          rw [hwq]
          have HW := Lib.hid hwq
          clear hwq hx hx'
          obtain ⟨x, hxe⟩ : ∃ z, p.getD k 0 = z := ⟨_, rfl⟩
          obtain ⟨y, hye⟩ : ∃ z, q.getD k 0 = z := ⟨_, rfl⟩
          obtain ⟨dk, hdk⟩ : ∃ z, dfN p q k = z := ⟨_, rfl⟩
          rw [hxe] at hx2 HS
          rw [hye] at hx3 HS
          rw [hdk] at HS HDK ⊢
          clear hxe hye hdk
          by_cases hxy : x = y
          · have y1 : (x != y) = false := by simp [hxy]
            have HS2 := Lib.hid (show dfN p q (k + 1) = dk by rw [HS.out, if_pos hxy])
            subst hxy
            clear HS
            go_wp2_with fail
            go_quiet (fail)
            go_wp2
            go_roundw
            case rel => exact ⟨k + 1, _, HLT.out, by go_num, by rw [HS2.out], by rw [← HW.out]; exact World.drewN_drewN _ _ _⟩
            case measure => simp [intOf]; omega
          · have y1 : (x != y) = true := by simp [hxy]
            have y2 : (x == y) = false := by simp [hxy]
            have HS2 := Lib.hid (show dfN p q (k + 1) = dk + 1 by rw [HS.out, if_neg hxy])
            have HKD := Lib.hid (show wrap64 ((dk : Int) + 1) = ((dk + 1 : Nat) : Int) by have h1 := HDK.out; rw [IntWalk.wrap64_in _ (by omega)]; omega)
            clear HS
            go_wp2_with fail
            go_quiet (fail)
            go_wp2
            go_roundw
            case rel => exact ⟨k + 1, _, HLT.out, by go_num, by rw [HS2.out, ← HKD.out], by rw [← HW.out]; exact World.drewN_drewN _ _ _⟩
            case measure => simp [intOf]; omega
        · have hke : k = p.length := by omega
          subst hke
          obtain ⟨dN, hdN⟩ : ∃ z, dfN p q p.length = z := ⟨_, rfl⟩
          rw [hdN] at HFL ⊢
          clear hdN hlt
          have hw : dN = 0 ∨ 2 ≤ dN := by
            rcases Nat.lt_or_ge dN 2 with h | h
            · by_cases h1 : dN = 1
              · exact absurd HQQ.out (HFL.out.1 h1)
              · exact .inl (by omega)
            · exact .inr h
          rcases hw with rfl | hw
          · go_wp2
            go_ret
            exact ⟨rfl, keep2 (below_drewN' _ _ n) HB92.out⟩
          · have f1 : ((dN : Int) == 1) = false := by simp; omega
            have f2 : ((dN : Int) = 1) = False := by simp; omega
            have f3 : decide ((dN : Int) > 0) = true := by simp; omega
            have f4 : decide (0 < (dN : Int)) = true := by simp; omega
            have f5 : 0 < dN := by omega
            have f6 : ¬ dN = 1 := by omega
            go_wp2
            go_ret
            exact ⟨rfl, keep2 (below_drewN' _ _ n) HB92.out⟩
    · have e5 : ((p.length : Int) != (q.length : Int)) = true := by simp; omega
      have e6 : ((p.length : Int) = (q.length : Int)) = False := by simp; omega
      go_wp2
      go_ret
      exact ⟨rfl, HB92.out⟩
  · have e1 : (T == R) = false := by simpa using hq
    have e4 : (T = R) = False := by simpa using hq
    have hz : ¬ eo = 0 := fun e => hq (HO.out.1 e)
    have e2 : (eo == 0) = false := by simpa using hz
    have e3 : (eo = 0) = False := by simpa using hz
    have HQQ := Lib.hid hq
    clear hq hz HO
    go_wp2_with fail
    refine (sum_any _ p _ FA_90.out).mono ?_
    rintro e w' ⟨rfl, rfl⟩
    rw [HDP.out]
    go_wp2_with fail
    refine (sum_any _ q _ FB_91.out).mono ?_
    rintro e w' ⟨rfl, rfl⟩
    rw [HDQ.out]
    by_cases hl : p.length = q.length
    · have e5 : ((p.length : Int) != (q.length : Int)) = false := by simp [hl]
      have e6 : ((p.length : Int) = (q.length : Int)) = True := by simp [hl]
      have HLL := Lib.hid hl
      have HFL := Lib.hid (HFF.out (by have h1 := HPL.out; have h2 := HQL.out; omega))
      have HP9 := Lib.hid (show p.length ≤ 2000 from HP8.out)
      clear hl HFF HPL HQL
      go_wp2_with fail
      clear e5 e6
      obtain ⟨pa, pc, hpa, -, hc⟩ := FA_90.out
      obtain ⟨rfl, rfl⟩ : Aa = pa ∧ Ac = pc := by simpa using hpa
      obtain ⟨qa, qc, hqa, -, hd⟩ := FB_91.out
      obtain ⟨rfl, rfl⟩ : Ba = qa ∧ Bc = qc := by simpa using hqa
      have HC := Lib.hid hc
      have HD := Lib.hid hd
      clear hpa hqa hc hd
      go_loopw [17, 18] (fun dv iv wr => ∃ k n : Nat, k ≤ p.length ∧ iv = .int .i64 k ∧ dv = .int .i64 (dfN p q k : Nat) ∧ wr = u8.drewN n) (fun _ iv _ => p.length - (intOf iv).toNat)
      case atStart => exact ⟨0, 0, by omega, rfl, rfl, rfl⟩
      case round =>
        obtain ⟨k, n, hk, rfl, rfl, rfl⟩ := hrel
        have HK := Lib.hid hk
        have hk9 : k ≤ 2000 := Nat.le_trans hk HP9.out
        by_cases hlt : k < p.length
        · obtain ⟨b1, o1, rfl, hcs⟩ := HC.out (by intro h; rw [h] at hlt; simp at hlt)
          have hlt' : k < q.length := by have := HLL.out; omega
          obtain ⟨b2, o2, rfl, hcs'⟩ := HD.out (by intro h; rw [h] at hlt'; simp at hlt')
          have hx := hcs k _ (getD_of hlt)
          have hx' := hcs' k _ (getD_of hlt')
          have HS := Lib.hid (show dfN p q (k + 1) = if p.getD k 0 = q.getD k 0 then dfN p q k else dfN p q k + 1 from rfl)
          have HDK := Lib.hid (df_le p q k)
          have HLT := Lib.hid hlt
          clear hcs hcs' hk
          obtain ⟨wq, hwq⟩ : ∃ wq, u8.drewN n = wq := ⟨_, rfl⟩
          have hx2 : wq.cell? ⟨b1, o1 + k, none⟩ = some (.int .i64 (p.getD k 0)) := by rw [← hwq]; exact hx
          have hx3 : wq.cell? ⟨b2, o2 + k, none⟩ = some (.int .i64 (q.getD k 0)) := by rw [← hwq]; exact hx'
          rw [hwq]
          have HW := Lib.hid hwq
          clear hwq hx hx'
          obtain ⟨x, hxe⟩ : ∃ z, p.getD k 0 = z := ⟨_, rfl⟩
          obtain ⟨y, hye⟩ : ∃ z, q.getD k 0 = z := ⟨_, rfl⟩
          obtain ⟨dk, hdk⟩ : ∃ z, dfN p q k = z := ⟨_, rfl⟩
          rw [hxe] at hx2 HS
          rw [hye] at hx3 HS
          rw [hdk] at HS HDK ⊢
          clear hxe hye hdk
          by_cases hxy : x = y
          · have y1 : (x != y) = false := by simp [hxy]
            have HS2 := Lib.hid (show dfN p q (k + 1) = dk by rw [HS.out, if_pos hxy])
            subst hxy
            clear HS
            go_wp2_with fail
            go_quiet (fail)
            go_wp2
            go_roundw
            case rel => exact ⟨k + 1, _, HLT.out, by go_num, by rw [HS2.out], by rw [← HW.out]; exact World.drewN_drewN _ _ _⟩
            case measure => simp [intOf]; omega
          · have y1 : (x != y) = true := by simp [hxy]
            have y2 : (x == y) = false := by simp [hxy]
            have HS2 := Lib.hid (show dfN p q (k + 1) = dk + 1 by rw [HS.out, if_neg hxy])
            have HKD := Lib.hid (show wrap64 ((dk : Int) + 1) = ((dk + 1 : Nat) : Int) by have h1 := HDK.out; rw [IntWalk.wrap64_in _ (by omega)]; omega)
            clear HS
            go_wp2_with fail
            go_quiet (fail)
            go_wp2
            go_roundw
            case rel => exact ⟨k + 1, _, HLT.out, by go_num, by rw [HS2.out, ← HKD.out], by rw [← HW.out]; exact World.drewN_drewN _ _ _⟩
            case measure => simp [intOf]; omega
        · have hke : k = p.length := by omega
          subst hke
          obtain ⟨dN, hdN⟩ : ∃ z, dfN p q p.length = z := ⟨_, rfl⟩
          rw [hdN] at HFL ⊢
          clear hdN hlt
          have hw : dN = 1 ∨ 2 ≤ dN := by
            rcases Nat.lt_or_ge dN 2 with h | h
            · by_cases h1 : dN = 1
              · exact .inl h1
              · exact absurd (HFL.out.2 (by omega)) HQQ.out
            · exact .inr h
          rcases hw with rfl | hw
          · go_wp2
            go_ret
            exact ⟨rfl, keep2 (below_drewN' _ _ n) HB92.out⟩
          · have f1 : ((dN : Int) == 1) = false := by simp; omega
            have f2 : ((dN : Int) = 1) = False := by simp; omega
            have f3 : decide ((dN : Int) > 0) = true := by simp; omega
            have f4 : decide (0 < (dN : Int)) = true := by simp; omega
            have f5 : 0 < dN := by omega
            have f6 : ¬ dN = 1 := by omega
            go_wp2
            go_ret
            exact ⟨rfl, keep2 (below_drewN' _ _ n) HB92.out⟩
    · have e5 : ((p.length : Int) != (q.length : Int)) = true := by simp; omega
      have e6 : ((p.length : Int) = (q.length : Int)) = False := by simp; omega
      go_wp2
      go_ret
      exact ⟨rfl, HB92.out⟩
theorem forged_any (k1 k2 a b c d : Int) (sl : Value) (l : List Int) (t a' b' c' d' : Int) (sm : Value) (l' : List Int) (t' : Int) (w : World) (h : IntsAt w sl l) (h' : IntsAt w sm l') : Calls Try.prog 5 #[.int .i64 k1, .int .i64 k2, .agg #[.int .i64 a, .int .i64 b, .int .i64 c, .int .i64 d, sl, .int .i64 t], .agg #[.int .i64 a', .int .i64 b', .int .i64 c', .int .i64 d', sm, .int .i64 t']] w fun e w' => e = .returned (.bool true) ∧ Below w.heap.size w w' := by
  cases hb : slB k1 a b c d l
  · cases hb' : slB k2 a' b' c' d' l'
    · exact ff_nn k1 k2 a b c d sl l t a' b' c' d' sm l' t' w h h' hb hb'
    · exact ff_ny k1 k2 a b c d sl l t a' b' c' d' sm l' t' w h h' hb hb'
  · cases hb' : slB k2 a' b' c' d' l'
    · exact ff_yn k1 k2 a b c d sl l t a' b' c' d' sm l' t' w h h' hb hb'
    · exact ff_main k1 k2 a b c d sl l t a' b' c' d' sm l' t' w h h' hb hb'
end Go.Proofs.Ytebeaekiaikgmaa
