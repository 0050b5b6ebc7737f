/- Law FrameBytes, the walk. -/
import Derived.Test.YtebeaekiaikgmaaLm
namespace Go.Proofs.Ytebeaekiaikgmaa
open Go.RowKit

set_option maxRecDepth 100000 in
set_option maxHeartbeats 8000000 in
theorem fb_a (a b c d : Int) (sl : Value) (l : List Int) (t : Int) (v : Value) (raw : List Int) (w : World) (h : IntsAt w sl l) (h' : BysAt w v raw) (hby : IsBy raw) (h4 : 40 < l.length) : Calls Try.prog 6 #[.agg #[.int .i64 a, .int .i64 b, .int .i64 c, .int .i64 d, sl, .int .i64 t], v] w fun e w' => e = .returned (.bool true) ∧ Below w.heap.size w w' := by
  have HI0 := Lib.hid h
  have HY0 := Lib.hid h'
  replace hby := Lib.hid hby
  obtain ⟨sa, sc, rfl, hm, -⟩ := h
  obtain ⟨ra, rc, rfl, -, hm', -⟩ := h'
  unfold maxLen at hm hm'
  replace h4 := Lib.hid h4
  have HB0 := Lib.hid (Below.refl w.heap.size w)
  go_enter Try.func6, Try.ntmps6
  have FI_1 := Lib.hid (HI0.out.step (al w (.cells #[.int .i64 a, .int .i64 b, .int .i64 c, .int .i64 d, .slice sa l.length sc, .int .i64 t] 24)))
  clear HI0
  have FY_2 := Lib.hid (HY0.out.step (al w (.cells #[.int .i64 a, .int .i64 b, .int .i64 c, .int .i64 d, .slice sa l.length sc, .int .i64 t] 24)))
  clear HY0
  have FF_3 := Lib.hid (Cs.new w (w.heap.size) #[.int .i64 a, .int .i64 b, .int .i64 c, .int .i64 d, .slice sa l.length sc, .int .i64 t] 24 (by simp))
  have HB4 : Hid (Below w.heap.size w (w.alloc (.cells #[.int .i64 a, .int .i64 b, .int .i64 c, .int .i64 d, .slice sa l.length sc, .int .i64 t] 24))) := HB0.out.alloc HB0.out.size _
  clear HB0
  go_wp2_with fail
  refine (head_any _).mono ?_
  rintro e u1 ⟨rfl, b1⟩
  have FI_5 := Lib.hid (FI_1.out.step b1)
  clear FI_1
  have FY_6 := Lib.hid (FY_2.out.step b1)
  clear FY_2
  have FF_7 := Lib.hid (FF_3.out.step b1)
  clear FF_3
  have HB8 := Lib.hid (keep2 b1 HB4.out)
  clear HB4 b1
  have xF0 := FF_7.out.c 0 rfl
  have xF1 := FF_7.out.c 1 rfl
  have xF2 := FF_7.out.c 2 rfl
  have xF3 := FF_7.out.c 3 rfl
  have xF4 := FF_7.out.c 4 rfl
  have xF5 := FF_7.out.c 5 rfl
  have xzF := FF_7.out.2.2
  have g1 : decide ((l.length : Int) > 40) = true := by simp; have := h4.out; omega
  have g1b : decide ((40 : Int) < l.length) = true := by simp; have := h4.out; omega
  go_wp2
  go_ret
  exact ⟨rfl, HB8.out⟩
set_option maxRecDepth 100000 in
set_option maxHeartbeats 8000000 in
theorem fb_b (a b c d : Int) (sl : Value) (l : List Int) (t : Int) (v : Value) (raw : List Int) (w : World) (h : IntsAt w sl l) (h' : BysAt w v raw) (hby : IsBy raw) (h4 : l.length ≤ 40) (h5 : 400 < raw.length) : Calls Try.prog 6 #[.agg #[.int .i64 a, .int .i64 b, .int .i64 c, .int .i64 d, sl, .int .i64 t], v] w fun e w' => e = .returned (.bool true) ∧ Below w.heap.size w w' := by
  have HI0 := Lib.hid h
  have HY0 := Lib.hid h'
  replace hby := Lib.hid hby
  obtain ⟨sa, sc, rfl, hm, -⟩ := h
  obtain ⟨ra, rc, rfl, -, hm', -⟩ := h'
  unfold maxLen at hm hm'
  replace h4 := Lib.hid h4
  replace h5 := Lib.hid h5
  have HB0 := Lib.hid (Below.refl w.heap.size w)
  go_enter Try.func6, Try.ntmps6
  have FI_1 := Lib.hid (HI0.out.step (al w (.cells #[.int .i64 a, .int .i64 b, .int .i64 c, .int .i64 d, .slice sa l.length sc, .int .i64 t] 24)))
  clear HI0
  have FY_2 := Lib.hid (HY0.out.step (al w (.cells #[.int .i64 a, .int .i64 b, .int .i64 c, .int .i64 d, .slice sa l.length sc, .int .i64 t] 24)))
  clear HY0
  have FF_3 := Lib.hid (Cs.new w (w.heap.size) #[.int .i64 a, .int .i64 b, .int .i64 c, .int .i64 d, .slice sa l.length sc, .int .i64 t] 24 (by simp))
  have HB4 : Hid (Below w.heap.size w (w.alloc (.cells #[.int .i64 a, .int .i64 b, .int .i64 c, .int .i64 d, .slice sa l.length sc, .int .i64 t] 24))) := HB0.out.alloc HB0.out.size _
  clear HB0
  go_wp2_with fail
  refine (head_any _).mono ?_
  rintro e u1 ⟨rfl, b1⟩
  have FI_5 := Lib.hid (FI_1.out.step b1)
  clear FI_1
  have FY_6 := Lib.hid (FY_2.out.step b1)
  clear FY_2
  have FF_7 := Lib.hid (FF_3.out.step b1)
  clear FF_3
  have HB8 := Lib.hid (keep2 b1 HB4.out)
  clear HB4 b1
  have xF0 := FF_7.out.c 0 rfl
  have xF1 := FF_7.out.c 1 rfl
  have xF2 := FF_7.out.c 2 rfl
  have xF3 := FF_7.out.c 3 rfl
  have xF4 := FF_7.out.c 4 rfl
  have xF5 := FF_7.out.c 5 rfl
  have xzF := FF_7.out.2.2
  have g1 : decide ((l.length : Int) > 40) = false := by simp; have := h4.out; omega
  have g1b : decide ((40 : Int) < l.length) = false := by simp; have := h4.out; omega
  have g2 : decide ((raw.length : Int) > 400) = true := by simp; have := h5.out; omega
  have g2b : decide ((400 : Int) < raw.length) = true := by simp; have := h5.out; omega
  go_wp2
  go_ret
  exact ⟨rfl, HB8.out⟩
set_option maxRecDepth 100000 in
set_option maxHeartbeats 8000000 in
theorem fb_no (a b c d : Int) (sl : Value) (l : List Int) (t : Int) (v : Value) (raw : List Int) (w : World) (h : IntsAt w sl l) (h' : BysAt w v raw) (hby : IsBy raw) (h4 : l.length ≤ 40) (h5 : raw.length ≤ 400) (hv : vaB a b c d l t = false) : Calls Try.prog 6 #[.agg #[.int .i64 a, .int .i64 b, .int .i64 c, .int .i64 d, sl, .int .i64 t], v] w fun e w' => e = .returned (.bool true) ∧ Below w.heap.size w w' := by
  have HI0 := Lib.hid h
  have HY0 := Lib.hid h'
  replace hby := Lib.hid hby
  obtain ⟨sa, sc, rfl, hm, -⟩ := h
  obtain ⟨ra, rc, rfl, -, hm', -⟩ := h'
  unfold maxLen at hm hm'
  replace h4 := Lib.hid h4
  replace h5 := Lib.hid h5
  replace hv := Lib.hid hv
  have HB0 := Lib.hid (Below.refl w.heap.size w)
  go_enter Try.func6, Try.ntmps6
  have FI_1 := Lib.hid (HI0.out.step (al w (.cells #[.int .i64 a, .int .i64 b, .int .i64 c, .int .i64 d, .slice sa l.length sc, .int .i64 t] 24)))
  clear HI0
  have FY_2 := Lib.hid (HY0.out.step (al w (.cells #[.int .i64 a, .int .i64 b, .int .i64 c, .int .i64 d, .slice sa l.length sc, .int .i64 t] 24)))
  clear HY0
  have FF_3 := Lib.hid (Cs.new w (w.heap.size) #[.int .i64 a, .int .i64 b, .int .i64 c, .int .i64 d, .slice sa l.length sc, .int .i64 t] 24 (by simp))
  have HB4 : Hid (Below w.heap.size w (w.alloc (.cells #[.int .i64 a, .int .i64 b, .int .i64 c, .int .i64 d, .slice sa l.length sc, .int .i64 t] 24))) := HB0.out.alloc HB0.out.size _
  clear HB0
  go_wp2_with fail
  refine (head_any _).mono ?_
  rintro e u1 ⟨rfl, b1⟩
  have FI_5 := Lib.hid (FI_1.out.step b1)
  clear FI_1
  have FY_6 := Lib.hid (FY_2.out.step b1)
  clear FY_2
  have FF_7 := Lib.hid (FF_3.out.step b1)
  clear FF_3
  have HB8 := Lib.hid (keep2 b1 HB4.out)
  clear HB4 b1
  have xF0 := FF_7.out.c 0 rfl
  have xF1 := FF_7.out.c 1 rfl
  have xF2 := FF_7.out.c 2 rfl
  have xF3 := FF_7.out.c 3 rfl
  have xF4 := FF_7.out.c 4 rfl
  have xF5 := FF_7.out.c 5 rfl
  have xzF := FF_7.out.2.2
  have g1 : decide ((l.length : Int) > 40) = false := by simp; have := h4.out; omega
  have g1b : decide ((40 : Int) < l.length) = false := by simp; have := h4.out; omega
  have g2 : decide ((raw.length : Int) > 400) = false := by simp; have := h5.out; omega
  have g2b : decide ((400 : Int) < raw.length) = false := by simp; have := h5.out; omega
  go_wp2_with fail
  refine (encode_no a b c d _ l t _ FI_5.out hv.out).mono ?_
  rintro e u2 ⟨rfl, b2⟩
  clear xF0 xF1 xF2 xF3 xF4 xF5 xzF
  have FI_9 := Lib.hid (FI_5.out.step b2)
  clear FI_5
  have FY_10 := Lib.hid (FY_6.out.step b2)
  clear FY_6
  have FF_11 := Lib.hid (FF_7.out.step b2)
  clear FF_7
  have HB12 := Lib.hid (keep2 b2 HB8.out)
  clear HB8 b2
  clear g1 g1b g2 g2b
  have xF0 := FF_11.out.c 0 rfl
  have xF1 := FF_11.out.c 1 rfl
  have xF2 := FF_11.out.c 2 rfl
  have xF3 := FF_11.out.c 3 rfl
  have xF4 := FF_11.out.c 4 rfl
  have xF5 := FF_11.out.c 5 rfl
  have xzF := FF_11.out.2.2
  go_wp2_with fail
  refine (valid_any a b c d _ l t _ FI_9.out).mono ?_
  rintro e u3 ⟨rfl, b3⟩
  clear xF0 xF1 xF2 xF3 xF4 xF5 xzF
  have FI_13 := Lib.hid (FI_9.out.step b3)
  clear FI_9
  have FY_14 := Lib.hid (FY_10.out.step b3)
  clear FY_10
  have FF_15 := Lib.hid (FF_11.out.step b3)
  clear FF_11
  have HB16 := Lib.hid (keep2 b3 HB12.out)
  clear HB12 b3
  rw [hv.out]
  have xF0 := FF_15.out.c 0 rfl
  have xF1 := FF_15.out.c 1 rfl
  have xF2 := FF_15.out.c 2 rfl
  have xF3 := FF_15.out.c 3 rfl
  have xF4 := FF_15.out.c 4 rfl
  have xF5 := FF_15.out.c 5 rfl
  have xzF := FF_15.out.2.2
  go_wp2_with fail
  clear xF0 xF1 xF2 xF3 xF4 xF5 xzF
  rcases decode_two _ raw _ FY_14.out hby.out (by have := h5.out; omega) with hdc | ⟨A, B, C, D, L, T, hen, hdc⟩
  · refine (hdc).mono ?_
    rintro e u4 ⟨u, rfl, hu, b4⟩
    have FI_17 := Lib.hid (FI_13.out.step b4)
    clear FI_13
    have FY_18 := Lib.hid (FY_14.out.step b4)
    clear FY_14
    have FF_19 := Lib.hid (FF_15.out.step b4)
    clear FF_15
    have HB20 := Lib.hid (keep2 b4 HB16.out)
    clear HB16 b4
    have FU_21 := Lib.hid (hu)
    obtain ⟨ua, uc, rfl, -, -⟩ := hu
    rw [show ([] : List Int).length = 0 from rfl]
    go_wp2_with fail
    have FI_22 := Lib.hid (FI_17.out.step (al u4 (.cells #[.int .i64 0, .int .i64 0, .int .i64 0, .int .i64 0, .slice ua 0 uc, .int .i64 0] 24)))
    clear FI_17
    have FY_23 := Lib.hid (FY_18.out.step (al u4 (.cells #[.int .i64 0, .int .i64 0, .int .i64 0, .int .i64 0, .slice ua 0 uc, .int .i64 0] 24)))
    clear FY_18
    have FF_24 := Lib.hid (FF_19.out.step (al u4 (.cells #[.int .i64 0, .int .i64 0, .int .i64 0, .int .i64 0, .slice ua 0 uc, .int .i64 0] 24)))
    clear FF_19
    have FU_25 := Lib.hid (FU_21.out.step (al u4 (.cells #[.int .i64 0, .int .i64 0, .int .i64 0, .int .i64 0, .slice ua 0 uc, .int .i64 0] 24)))
    clear FU_21
    have FS_26 := Lib.hid (Cs.new u4 (u4.heap.size) #[.int .i64 0, .int .i64 0, .int .i64 0, .int .i64 0, .slice ua 0 uc, .int .i64 0] 24 (by simp))
    have HB27 : Hid (Below w.heap.size w (u4.alloc (.cells #[.int .i64 0, .int .i64 0, .int .i64 0, .int .i64 0, .slice ua 0 uc, .int .i64 0] 24))) := HB20.out.alloc HB20.out.size _
    clear HB20
    refine (same_any 0 0 0 0 _ [] 0 0 0 0 0 _ [] 0 _ FU_25.out (ints_nil _)).mono ?_
    rintro e u5 ⟨rfl, b5⟩
    have FI_28 := Lib.hid (FI_22.out.step b5)
    clear FI_22
    have FY_29 := Lib.hid (FY_23.out.step b5)
    clear FY_23
    have FF_30 := Lib.hid (FF_24.out.step b5)
    clear FF_24
    have FU_31 := Lib.hid (FU_25.out.step b5)
    clear FU_25
    have FS_32 := Lib.hid (FS_26.out.step b5)
    clear FS_26
    have HB33 := Lib.hid (keep2 b5 HB27.out)
    clear HB27 b5
    rw [same_self]
    go_wp2
    go_ret
    exact ⟨rfl, HB33.out⟩
  · have HEN := Lib.hid hen
    clear hen
    refine (hdc).mono ?_
    rintro e u4 ⟨u, rfl, hu, b4⟩
    have FI_17 := Lib.hid (FI_13.out.step b4)
    clear FI_13
    have FY_18 := Lib.hid (FY_14.out.step b4)
    clear FY_14
    have FF_19 := Lib.hid (FF_15.out.step b4)
    clear FF_15
    have HB20 := Lib.hid (keep2 b4 HB16.out)
    clear HB16 b4
    have FU_21 := Lib.hid (hu)
    obtain ⟨ua, uc, rfl, -, -⟩ := hu
    have FI_22 := Lib.hid (FI_17.out.step (al u4 (.cells #[.int .i64 A, .int .i64 B, .int .i64 C, .int .i64 D, .slice ua L.length uc, .int .i64 T] 24)))
    clear FI_17
    have FY_23 := Lib.hid (FY_18.out.step (al u4 (.cells #[.int .i64 A, .int .i64 B, .int .i64 C, .int .i64 D, .slice ua L.length uc, .int .i64 T] 24)))
    clear FY_18
    have FF_24 := Lib.hid (FF_19.out.step (al u4 (.cells #[.int .i64 A, .int .i64 B, .int .i64 C, .int .i64 D, .slice ua L.length uc, .int .i64 T] 24)))
    clear FF_19
    have FU_25 := Lib.hid (FU_21.out.step (al u4 (.cells #[.int .i64 A, .int .i64 B, .int .i64 C, .int .i64 D, .slice ua L.length uc, .int .i64 T] 24)))
    clear FU_21
    have FS_26 := Lib.hid (Cs.new u4 (u4.heap.size) #[.int .i64 A, .int .i64 B, .int .i64 C, .int .i64 D, .slice ua L.length uc, .int .i64 T] 24 (by simp))
    have HB27 : Hid (Below w.heap.size w (u4.alloc (.cells #[.int .i64 A, .int .i64 B, .int .i64 C, .int .i64 D, .slice ua L.length uc, .int .i64 T] 24))) := HB20.out.alloc HB20.out.size _
    clear HB20
    obtain ⟨str, hstr⟩ : ∃ z, strOfNums raw = z := ⟨_, rfl⟩
    have HSTR := Lib.hid hstr
    clear hstr
    go_upto_region 14 with fail
    obtain ⟨W9, hW9⟩ : ∃ z, (u4.alloc (.cells #[.int .i64 A, .int .i64 B, .int .i64 C, .int .i64 D, .slice ua L.length uc, .int .i64 T] 24)) = z := ⟨_, rfl⟩
    rw [hW9] at FI_22 FY_23 FF_24 FU_25 FS_26 HB27 ⊢
    clear hW9
    have xS0 := FS_26.out.c 0 rfl
    have xS1 := FS_26.out.c 1 rfl
    have xS2 := FS_26.out.c 2 rfl
    have xS3 := FS_26.out.c 3 rfl
    have xS4 := FS_26.out.c 4 rfl
    have xS5 := FS_26.out.c 5 rfl
    have xzS := FS_26.out.2.2
    have cv0 : (convert 25 9 (.slice ra raw.length rc)).run Try.prog W9.drew = .ok (.string str) W9.drew := by rw [← HSTR.out]; exact conv_bys (FY_23.out.step (below_drew _ _))
    go_region_law (go_simp; go_at_call 22; refine (encode_any A B C D _ L T _ (FU_25.out.step (below_drew _ _))).mono ?_; rintro e w3 ⟨eu, rfl, heu, b3⟩; rw [HEN.out] at heu; have cv1 : (convert 25 9 eu).run Try.prog w3 = .ok (.string str) w3 := (by rw [← HSTR.out]; exact conv_bys (bys_of_row heu)); have cv2 : (convert 25 9 (.slice ra raw.length rc)).run Try.prog w3 = .ok (.string str) w3 := (by rw [← HSTR.out]; exact conv_bys (FY_23.out.step (keep2 b3 (below_drew _ _)))); have HB3 := Lib.hid (keep2 b3 (keep2 (below_drew _ _) HB27.out)); clear b3 heu)
    all_goals go_wp2
    all_goals go_ret
    all_goals exact ⟨rfl, HB3.out⟩
set_option maxRecDepth 100000 in
set_option maxHeartbeats 8000000 in
theorem fb_yes (a b c d : Int) (sl : Value) (l : List Int) (t : Int) (v : Value) (raw : List Int) (w : World) (h : IntsAt w sl l) (h' : BysAt w v raw) (hby : IsBy raw) (h4 : l.length ≤ 40) (h5 : raw.length ≤ 400) (hv : vaB a b c d l t = true) : Calls Try.prog 6 #[.agg #[.int .i64 a, .int .i64 b, .int .i64 c, .int .i64 d, sl, .int .i64 t], v] w fun e w' => e = .returned (.bool true) ∧ Below w.heap.size w w' := by
  have HI0 := Lib.hid h
  have HY0 := Lib.hid h'
  replace hby := Lib.hid hby
  obtain ⟨sa, sc, rfl, hm, -⟩ := h
  obtain ⟨ra, rc, rfl, -, hm', -⟩ := h'
  unfold maxLen at hm hm'
  replace h4 := Lib.hid h4
  replace h5 := Lib.hid h5
  replace hv := Lib.hid hv
  have HB0 := Lib.hid (Below.refl w.heap.size w)
  go_enter Try.func6, Try.ntmps6
  have FI_1 := Lib.hid (HI0.out.step (al w (.cells #[.int .i64 a, .int .i64 b, .int .i64 c, .int .i64 d, .slice sa l.length sc, .int .i64 t] 24)))
  clear HI0
  have FY_2 := Lib.hid (HY0.out.step (al w (.cells #[.int .i64 a, .int .i64 b, .int .i64 c, .int .i64 d, .slice sa l.length sc, .int .i64 t] 24)))
  clear HY0
  have FF_3 := Lib.hid (Cs.new w (w.heap.size) #[.int .i64 a, .int .i64 b, .int .i64 c, .int .i64 d, .slice sa l.length sc, .int .i64 t] 24 (by simp))
  have HB4 : Hid (Below w.heap.size w (w.alloc (.cells #[.int .i64 a, .int .i64 b, .int .i64 c, .int .i64 d, .slice sa l.length sc, .int .i64 t] 24))) := HB0.out.alloc HB0.out.size _
  clear HB0
  go_wp2_with fail
  refine (head_any _).mono ?_
  rintro e u1 ⟨rfl, b1⟩
  have FI_5 := Lib.hid (FI_1.out.step b1)
  clear FI_1
  have FY_6 := Lib.hid (FY_2.out.step b1)
  clear FY_2
  have FF_7 := Lib.hid (FF_3.out.step b1)
  clear FF_3
  have HB8 := Lib.hid (keep2 b1 HB4.out)
  clear HB4 b1
  have xF0 := FF_7.out.c 0 rfl
  have xF1 := FF_7.out.c 1 rfl
  have xF2 := FF_7.out.c 2 rfl
  have xF3 := FF_7.out.c 3 rfl
  have xF4 := FF_7.out.c 4 rfl
  have xF5 := FF_7.out.c 5 rfl
  have xzF := FF_7.out.2.2
  have g1 : decide ((l.length : Int) > 40) = false := by simp; have := h4.out; omega
  have g1b : decide ((40 : Int) < l.length) = false := by simp; have := h4.out; omega
  have g2 : decide ((raw.length : Int) > 400) = false := by simp; have := h5.out; omega
  have g2b : decide ((400 : Int) < raw.length) = false := by simp; have := h5.out; omega
  go_wp2_with fail
  refine (encode_yes a b c d _ l t _ FI_5.out hv.out).mono ?_
  rintro e u2 ⟨ev, rfl, hev, b2⟩
  clear xF0 xF1 xF2 xF3 xF4 xF5 xzF
  have FI_9 := Lib.hid (FI_5.out.step b2)
  clear FI_5
  have FY_10 := Lib.hid (FY_6.out.step b2)
  clear FY_6
  have FF_11 := Lib.hid (FF_7.out.step b2)
  clear FF_7
  have HB12 := Lib.hid (keep2 b2 HB8.out)
  clear HB8 b2
  clear g1 g1b g2 g2b
  obtain ⟨E, hE⟩ : ∃ z, encF a b c d l t = z := ⟨_, rfl⟩
  rw [hE] at hev
  have HEL := Lib.hid (show E.length = 23 + 4 * l.length by rw [← hE]; exact encF_len _ _ _ _ _ _)
  have HDC := Lib.hid (fun (v : Value) (w : World) (h : BysAt w v E) => decode_enc hv.out v w (by rw [hE]; exact h))
  clear hE
  have hev2 := bys_of_row hev
  have FE_13 := Lib.hid (hev2)
  obtain ⟨ea, ec, rfl⟩ := row_slice hev
  clear hev hev2
  have xF0 := FF_11.out.c 0 rfl
  have xF1 := FF_11.out.c 1 rfl
  have xF2 := FF_11.out.c 2 rfl
  have xF3 := FF_11.out.c 3 rfl
  have xF4 := FF_11.out.c 4 rfl
  have xF5 := FF_11.out.c 5 rfl
  have xzF := FF_11.out.2.2
  go_wp2_with fail
  refine (valid_any a b c d _ l t _ FI_9.out).mono ?_
  rintro e u3 ⟨rfl, b3⟩
  clear xF0 xF1 xF2 xF3 xF4 xF5 xzF
  have FI_14 := Lib.hid (FI_9.out.step b3)
  clear FI_9
  have FY_15 := Lib.hid (FY_10.out.step b3)
  clear FY_10
  have FF_16 := Lib.hid (FF_11.out.step b3)
  clear FF_11
  have FE_17 := Lib.hid (FE_13.out.step b3)
  clear FE_13
  have HB18 := Lib.hid (keep2 b3 HB12.out)
  clear HB12 b3
  rw [hv.out]
  have xF0 := FF_16.out.c 0 rfl
  have xF1 := FF_16.out.c 1 rfl
  have xF2 := FF_16.out.c 2 rfl
  have xF3 := FF_16.out.c 3 rfl
  have xF4 := FF_16.out.c 4 rfl
  have xF5 := FF_16.out.c 5 rfl
  have xzF := FF_16.out.2.2
  go_wp2_with fail
  refine (HDC.out _ _ FE_17.out).mono ?_
  rintro e u4 ⟨u, rfl, hu, b4⟩
  clear xF0 xF1 xF2 xF3 xF4 xF5 xzF
  have FI_19 := Lib.hid (FI_14.out.step b4)
  clear FI_14
  have FY_20 := Lib.hid (FY_15.out.step b4)
  clear FY_15
  have FF_21 := Lib.hid (FF_16.out.step b4)
  clear FF_16
  have FE_22 := Lib.hid (FE_17.out.step b4)
  clear FE_17
  have HB23 := Lib.hid (keep2 b4 HB18.out)
  clear HB18 b4
  have FU1_24 := Lib.hid (hu)
  obtain ⟨ua, uc, rfl, -, -⟩ := hu
  have xF0 := FF_21.out.c 0 rfl
  have xF1 := FF_21.out.c 1 rfl
  have xF2 := FF_21.out.c 2 rfl
  have xF3 := FF_21.out.c 3 rfl
  have xF4 := FF_21.out.c 4 rfl
  have xF5 := FF_21.out.c 5 rfl
  have xzF := FF_21.out.2.2
  go_wp2_with fail
  have FI_25 := Lib.hid (FI_19.out.step (al u4 (.cells #[.int .i64 a, .int .i64 b, .int .i64 c, .int .i64 d, .slice ua l.length uc, .int .i64 t] 24)))
  clear FI_19
  have FY_26 := Lib.hid (FY_20.out.step (al u4 (.cells #[.int .i64 a, .int .i64 b, .int .i64 c, .int .i64 d, .slice ua l.length uc, .int .i64 t] 24)))
  clear FY_20
  have FF_27 := Lib.hid (FF_21.out.step (al u4 (.cells #[.int .i64 a, .int .i64 b, .int .i64 c, .int .i64 d, .slice ua l.length uc, .int .i64 t] 24)))
  clear FF_21
  have FE_28 := Lib.hid (FE_22.out.step (al u4 (.cells #[.int .i64 a, .int .i64 b, .int .i64 c, .int .i64 d, .slice ua l.length uc, .int .i64 t] 24)))
  clear FE_22
  have FU1_29 := Lib.hid (FU1_24.out.step (al u4 (.cells #[.int .i64 a, .int .i64 b, .int .i64 c, .int .i64 d, .slice ua l.length uc, .int .i64 t] 24)))
  clear FU1_24
  have FS1_30 := Lib.hid (Cs.new u4 (u4.heap.size) #[.int .i64 a, .int .i64 b, .int .i64 c, .int .i64 d, .slice ua l.length uc, .int .i64 t] 24 (by simp))
  have HB31 : Hid (Below w.heap.size w (u4.alloc (.cells #[.int .i64 a, .int .i64 b, .int .i64 c, .int .i64 d, .slice ua l.length uc, .int .i64 t] 24))) := HB23.out.alloc HB23.out.size _
  clear HB23
  refine (same_any a b c d _ l t a b c d _ l t _ FI_25.out FU1_29.out).mono ?_
  rintro e u5 ⟨rfl, b5⟩
  clear xF0 xF1 xF2 xF3 xF4 xF5 xzF
  have FI_32 := Lib.hid (FI_25.out.step b5)
  clear FI_25
  have FY_33 := Lib.hid (FY_26.out.step b5)
  clear FY_26
  have FF_34 := Lib.hid (FF_27.out.step b5)
  clear FF_27
  have FE_35 := Lib.hid (FE_28.out.step b5)
  clear FE_28
  have FU1_36 := Lib.hid (FU1_29.out.step b5)
  clear FU1_29
  have FS1_37 := Lib.hid (FS1_30.out.step b5)
  clear FS1_30
  have HB38 := Lib.hid (keep2 b5 HB31.out)
  clear HB31 b5
  rw [same_self]
  clear FE_35
  have q1 : wrap64 (4 * (l.length : Int)) = 4 * l.length := IntWalk.wrap64_in _ (by have := h4.out; omega)
  have q2 : wrap64 (23 + 4 * (l.length : Int)) = 23 + 4 * l.length := IntWalk.wrap64_in _ (by have := h4.out; omega)
  have q3 : ((E.length : Int) == 23 + 4 * (l.length : Int)) = true := by simp; have := HEL.out; omega
  have q4 : ((E.length : Int) != 23 + 4 * (l.length : Int)) = false := by simp; have := HEL.out; omega
  have q5 : ((E.length : Int) = 23 + 4 * (l.length : Int)) = True := by simp; have := HEL.out; omega
  have xF0 := FF_34.out.c 0 rfl
  have xF1 := FF_34.out.c 1 rfl
  have xF2 := FF_34.out.c 2 rfl
  have xF3 := FF_34.out.c 3 rfl
  have xF4 := FF_34.out.c 4 rfl
  have xF5 := FF_34.out.c 5 rfl
  have xzF := FF_34.out.2.2
  go_wp2_with fail
  clear xF0 xF1 xF2 xF3 xF4 xF5 xzF
  clear q1 q2 q3 q4 q5
  rcases decode_two _ raw _ FY_33.out hby.out (by have := h5.out; omega) with hdc | ⟨A, B, C, D, L, T, hen, hdc⟩
  · refine (hdc).mono ?_
    rintro e u6 ⟨u, rfl, hu, b6⟩
    have FI_39 := Lib.hid (FI_32.out.step b6)
    clear FI_32
    have FY_40 := Lib.hid (FY_33.out.step b6)
    clear FY_33
    have FF_41 := Lib.hid (FF_34.out.step b6)
    clear FF_34
    have FU1_42 := Lib.hid (FU1_36.out.step b6)
    clear FU1_36
    have FS1_43 := Lib.hid (FS1_37.out.step b6)
    clear FS1_37
    have HB44 := Lib.hid (keep2 b6 HB38.out)
    clear HB38 b6
    have FU_45 := Lib.hid (hu)
    obtain ⟨ua, uc, rfl, -, -⟩ := hu
    rw [show ([] : List Int).length = 0 from rfl]
    go_wp2_with fail
    have FI_46 := Lib.hid (FI_39.out.step (al u6 (.cells #[.int .i64 0, .int .i64 0, .int .i64 0, .int .i64 0, .slice ua 0 uc, .int .i64 0] 24)))
    clear FI_39
    have FY_47 := Lib.hid (FY_40.out.step (al u6 (.cells #[.int .i64 0, .int .i64 0, .int .i64 0, .int .i64 0, .slice ua 0 uc, .int .i64 0] 24)))
    clear FY_40
    have FF_48 := Lib.hid (FF_41.out.step (al u6 (.cells #[.int .i64 0, .int .i64 0, .int .i64 0, .int .i64 0, .slice ua 0 uc, .int .i64 0] 24)))
    clear FF_41
    have FU1_49 := Lib.hid (FU1_42.out.step (al u6 (.cells #[.int .i64 0, .int .i64 0, .int .i64 0, .int .i64 0, .slice ua 0 uc, .int .i64 0] 24)))
    clear FU1_42
    have FS1_50 := Lib.hid (FS1_43.out.step (al u6 (.cells #[.int .i64 0, .int .i64 0, .int .i64 0, .int .i64 0, .slice ua 0 uc, .int .i64 0] 24)))
    clear FS1_43
    have FU_51 := Lib.hid (FU_45.out.step (al u6 (.cells #[.int .i64 0, .int .i64 0, .int .i64 0, .int .i64 0, .slice ua 0 uc, .int .i64 0] 24)))
    clear FU_45
    have FS_52 := Lib.hid (Cs.new u6 (u6.heap.size) #[.int .i64 0, .int .i64 0, .int .i64 0, .int .i64 0, .slice ua 0 uc, .int .i64 0] 24 (by simp))
    have HB53 : Hid (Below w.heap.size w (u6.alloc (.cells #[.int .i64 0, .int .i64 0, .int .i64 0, .int .i64 0, .slice ua 0 uc, .int .i64 0] 24))) := HB44.out.alloc HB44.out.size _
    clear HB44
    refine (same_any 0 0 0 0 _ [] 0 0 0 0 0 _ [] 0 _ FU_51.out (ints_nil _)).mono ?_
    rintro e u7 ⟨rfl, b7⟩
    have FI_54 := Lib.hid (FI_46.out.step b7)
    clear FI_46
    have FY_55 := Lib.hid (FY_47.out.step b7)
    clear FY_47
    have FF_56 := Lib.hid (FF_48.out.step b7)
    clear FF_48
    have FU1_57 := Lib.hid (FU1_49.out.step b7)
    clear FU1_49
    have FS1_58 := Lib.hid (FS1_50.out.step b7)
    clear FS1_50
    have FU_59 := Lib.hid (FU_51.out.step b7)
    clear FU_51
    have FS_60 := Lib.hid (FS_52.out.step b7)
    clear FS_52
    have HB61 := Lib.hid (keep2 b7 HB53.out)
    clear HB53 b7
    rw [same_self]
    go_wp2
    go_ret
    exact ⟨rfl, HB61.out⟩
  · have HEN := Lib.hid hen
    clear hen
    refine (hdc).mono ?_
    rintro e u6 ⟨u, rfl, hu, b6⟩
    have FI_39 := Lib.hid (FI_32.out.step b6)
    clear FI_32
    have FY_40 := Lib.hid (FY_33.out.step b6)
    clear FY_33
    have FF_41 := Lib.hid (FF_34.out.step b6)
    clear FF_34
    have FU1_42 := Lib.hid (FU1_36.out.step b6)
    clear FU1_36
    have FS1_43 := Lib.hid (FS1_37.out.step b6)
    clear FS1_37
    have HB44 := Lib.hid (keep2 b6 HB38.out)
    clear HB38 b6
    have FU_45 := Lib.hid (hu)
    obtain ⟨ua, uc, rfl, -, -⟩ := hu
    have FI_46 := Lib.hid (FI_39.out.step (al u6 (.cells #[.int .i64 A, .int .i64 B, .int .i64 C, .int .i64 D, .slice ua L.length uc, .int .i64 T] 24)))
    clear FI_39
    have FY_47 := Lib.hid (FY_40.out.step (al u6 (.cells #[.int .i64 A, .int .i64 B, .int .i64 C, .int .i64 D, .slice ua L.length uc, .int .i64 T] 24)))
    clear FY_40
    have FF_48 := Lib.hid (FF_41.out.step (al u6 (.cells #[.int .i64 A, .int .i64 B, .int .i64 C, .int .i64 D, .slice ua L.length uc, .int .i64 T] 24)))
    clear FF_41
    have FU1_49 := Lib.hid (FU1_42.out.step (al u6 (.cells #[.int .i64 A, .int .i64 B, .int .i64 C, .int .i64 D, .slice ua L.length uc, .int .i64 T] 24)))
    clear FU1_42
    have FS1_50 := Lib.hid (FS1_43.out.step (al u6 (.cells #[.int .i64 A, .int .i64 B, .int .i64 C, .int .i64 D, .slice ua L.length uc, .int .i64 T] 24)))
    clear FS1_43
    have FU_51 := Lib.hid (FU_45.out.step (al u6 (.cells #[.int .i64 A, .int .i64 B, .int .i64 C, .int .i64 D, .slice ua L.length uc, .int .i64 T] 24)))
    clear FU_45
    have FS_52 := Lib.hid (Cs.new u6 (u6.heap.size) #[.int .i64 A, .int .i64 B, .int .i64 C, .int .i64 D, .slice ua L.length uc, .int .i64 T] 24 (by simp))
    have HB53 : Hid (Below w.heap.size w (u6.alloc (.cells #[.int .i64 A, .int .i64 B, .int .i64 C, .int .i64 D, .slice ua L.length uc, .int .i64 T] 24))) := HB44.out.alloc HB44.out.size _
    clear HB44
    obtain ⟨str, hstr⟩ : ∃ z, strOfNums raw = z := ⟨_, rfl⟩
    have HSTR := Lib.hid hstr
    clear hstr
    go_upto_region 14 with fail
    obtain ⟨W9, hW9⟩ : ∃ z, (u6.alloc (.cells #[.int .i64 A, .int .i64 B, .int .i64 C, .int .i64 D, .slice ua L.length uc, .int .i64 T] 24)) = z := ⟨_, rfl⟩
    rw [hW9] at FI_46 FY_47 FF_48 FU1_49 FS1_50 FU_51 FS_52 HB53 ⊢
    clear hW9
    have xS0 := FS_52.out.c 0 rfl
    have xS1 := FS_52.out.c 1 rfl
    have xS2 := FS_52.out.c 2 rfl
    have xS3 := FS_52.out.c 3 rfl
    have xS4 := FS_52.out.c 4 rfl
    have xS5 := FS_52.out.c 5 rfl
    have xzS := FS_52.out.2.2
    have cv0 : (convert 25 9 (.slice ra raw.length rc)).run Try.prog W9.drew = .ok (.string str) W9.drew := by rw [← HSTR.out]; exact conv_bys (FY_47.out.step (below_drew _ _))
    go_region_law (go_simp; go_at_call 22; refine (encode_any A B C D _ L T _ (FU_51.out.step (below_drew _ _))).mono ?_; rintro e w3 ⟨eu, rfl, heu, b3⟩; rw [HEN.out] at heu; have cv1 : (convert 25 9 eu).run Try.prog w3 = .ok (.string str) w3 := (by rw [← HSTR.out]; exact conv_bys (bys_of_row heu)); have cv2 : (convert 25 9 (.slice ra raw.length rc)).run Try.prog w3 = .ok (.string str) w3 := (by rw [← HSTR.out]; exact conv_bys (FY_47.out.step (keep2 b3 (below_drew _ _)))); have HB3 := Lib.hid (keep2 b3 (keep2 (below_drew _ _) HB53.out)); clear b3 heu)
    all_goals go_wp2
    all_goals go_ret
    all_goals exact ⟨rfl, HB3.out⟩
theorem bytes_any (a b c d : Int) (sl : Value) (l : List Int) (t : Int) (v : Value) (raw : List Int) (w : World) (h : IntsAt w sl l) (h' : BysAt w v raw) (hby : IsBy raw) : Calls Try.prog 6 #[.agg #[.int .i64 a, .int .i64 b, .int .i64 c, .int .i64 d, sl, .int .i64 t], v] w fun e w' => e = .returned (.bool true) ∧ Below w.heap.size w w' := by
  by_cases h4 : 40 < l.length
  · exact fb_a a b c d sl l t v raw w h h' hby h4
  · by_cases h5 : 400 < raw.length
    · exact fb_b a b c d sl l t v raw w h h' hby (by omega) h5
    · cases hv : vaB a b c d l t
      · exact fb_no a b c d sl l t v raw w h h' hby (by omega) (by omega) hv
      · exact fb_yes a b c d sl l t v raw w h h' hby (by omega) (by omega) hv
end Go.Proofs.Ytebeaekiaikgmaa
