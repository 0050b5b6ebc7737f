/- Law FrameSealed, the walk. -/
import Derived.Test.YtebeaekiaikgmaaHb
namespace Go.Proofs.Ytebeaekiaikgmaa
open Go.RowKit

/-- What 'Seal' and 'Open' say of any frame. -/
def slB (key a b c d : Int) (l : List Int) : Bool := tgB key && vaB a b c d l 0
theorem seal_bad (key a b c d : Int) (sl : Value) (l : List Int) (t : Int) (w : World) (h : IntsAt w sl l) (hb : slB key a b c d l = false) : Calls Try.prog 11 #[.int .i64 key, .agg #[.int .i64 a, .int .i64 b, .int .i64 c, .int .i64 d, sl, .int .i64 t]] w (DcP w 0 0 0 0 [] 0 1) := by
  unfold slB at hb
  cases hk : tgB key
  · exact seal_no1 key a b c d sl l t w h hk
  · rw [hk, Bool.true_and] at hb
    exact seal_no2 key a b c d sl l t w h hk hb
theorem seal_good (key a b c d : Int) (sl : Value) (l : List Int) (t : Int) (w : World) (h : IntsAt w sl l) (hb : slB key a b c d l = true) : Calls Try.prog 11 #[.int .i64 key, .agg #[.int .i64 a, .int .i64 b, .int .i64 c, .int .i64 d, sl, .int .i64 t]] w (DcP w a b c d l (tgF key a b c d l) 0) := by
  unfold slB at hb
  rw [Bool.and_eq_true] at hb
  exact seal_ok key a b c d sl l t w h hb.1 hb.2
theorem va_tag {a b c d t : Int} {l : List Int} (h : vaB a b c d l 0 = true) : vaB a b c d l t = tgB t := by
  obtain ⟨h1, h2, h3, h4, h5, h6, -⟩ := va_parts h
  unfold vaB
  rw [fd_yes h1.1 h1.2, fd_yes h2.1 h2.2, fd_yes h3.1 h3.2, fd_yes h4.1 h4.2, h5, decide_eq_true h6]
  rfl
theorem tg_tag (key a b c d : Int) (l : List Int) : tgB (tgF key a b c d l) = true := by
  have := tgF_bd key a b c d l
  unfold tgB
  simp
  omega
/-- The number that 'Open' returns. -/
def opE (key a b c d : Int) (l : List Int) (t : Int) : Int := if tgB key && vaB a b c d l t then (if t = tgF key a b c d l then 0 else 15) else 1
theorem open_any (key a b c d : Int) (sl : Value) (l : List Int) (t : Int) (w : World) (h : IntsAt w sl l) : Calls Try.prog 20 #[.int .i64 key, .agg #[.int .i64 a, .int .i64 b, .int .i64 c, .int .i64 d, sl, .int .i64 t]] w fun e w' => e = .returned (.int .i64 (opE key a b c d l t)) ∧ Below w.heap.size w w' := by
  unfold opE
  cases hk : tgB key
  · exact open_no1 key a b c d sl l t w h hk
  · cases hv : vaB a b c d l t
    · exact open_no2 key a b c d sl l t w h hk hv
    · by_cases hq : t = tgF key a b c d l
      · rw [if_pos hq]; exact open_yes key a b c d sl l t w h hk hv hq
      · rw [if_neg hq]; exact open_tag key a b c d sl l t w h hk hv hq
theorem same_self (a b c d : Int) (l : List Int) (t : Int) : sameB a b c d l t a b c d l t = true := by simp [sameB]
/-- With any tag a sealed frame is opened exactly with its own. -/
theorem op_sealed {key a b c d : Int} {l : List Int} (h : slB key a b c d l = true) (t : Int) : opE key a b c d l t = 0 ↔ t = tgF key a b c d l := by
  unfold slB at h
  rw [Bool.and_eq_true] at h
  unfold opE
  rw [h.1, va_tag h.2, Bool.true_and]
  cases hq : tgB t
  · rw [if_neg (by decide)]
    refine ⟨fun h => by omega, fun e => ?_⟩
    rw [e, tg_tag] at hq
    cases hq
  · rw [if_pos rfl]
    by_cases e : t = tgF key a b c d l
    · rw [if_pos e]; simp [e]
    · rw [if_neg e]; simp [e]
set_option maxRecDepth 100000 in
set_option maxHeartbeats 8000000 in
theorem fs_long (key a b c d : Int) (sl : Value) (l : List Int) (t tag : Int) (w : World) (h : IntsAt w sl l) (h4 : 40 < l.length) : Calls Try.prog 4 #[.int .i64 key, .agg #[.int .i64 a, .int .i64 b, .int .i64 c, .int .i64 d, sl, .int .i64 t], .int .i64 tag] w fun e w' => e = .returned (.bool true) ∧ Below w.heap.size w w' := by
  have HI0 := Lib.hid h
  obtain ⟨sa, sc, rfl, hm, -⟩ := h
  unfold maxLen at hm
  replace h4 := Lib.hid h4
  have HB0 := Lib.hid (Below.refl w.heap.size w)
  go_enter Try.func4, Try.ntmps4
  have FI_1 := Lib.hid (HI0.out.step (al w (.cells #[.int .i64 a, .int .i64 b, .int .i64 c, .int .i64 d, .slice sa l.length sc, .int .i64 t] 24)))
  clear HI0
  have FF_2 := Lib.hid (Cs.new w (w.heap.size) #[.int .i64 a, .int .i64 b, .int .i64 c, .int .i64 d, .slice sa l.length sc, .int .i64 t] 24 (by simp))
  have HB3 : Hid (Below w.heap.size w (w.alloc (.cells #[.int .i64 a, .int .i64 b, .int .i64 c, .int .i64 d, .slice sa l.length sc, .int .i64 t] 24))) := HB0.out.alloc HB0.out.size _
  clear HB0
  go_wp2_with fail
  refine (head_any _).mono ?_
  rintro e u1 ⟨rfl, b1⟩
  have FI_4 := Lib.hid (FI_1.out.step b1)
  clear FI_1
  have FF_5 := Lib.hid (FF_2.out.step b1)
  clear FF_2
  have HB6 := Lib.hid (keep2 b1 HB3.out)
  clear HB3 b1
  have xF0 := FF_5.out.c 0 rfl
  have xF1 := FF_5.out.c 1 rfl
  have xF2 := FF_5.out.c 2 rfl
  have xF3 := FF_5.out.c 3 rfl
  have xF4 := FF_5.out.c 4 rfl
  have xF5 := FF_5.out.c 5 rfl
  have xzF := FF_5.out.2.2
  have g1 : decide ((l.length : Int) > 40) = true := by simp; have := h4.out; omega
  have g1b : decide ((40 : Int) < l.length) = true := by simp; have := h4.out; omega
  go_wp2
  go_ret
  exact ⟨rfl, HB6.out⟩
set_option maxRecDepth 100000 in
set_option maxHeartbeats 8000000 in
theorem fs_bad (key a b c d : Int) (sl : Value) (l : List Int) (t tag : Int) (w : World) (h : IntsAt w sl l) (h4 : l.length ≤ 40) (hb : slB key a b c d l = false) : Calls Try.prog 4 #[.int .i64 key, .agg #[.int .i64 a, .int .i64 b, .int .i64 c, .int .i64 d, sl, .int .i64 t], .int .i64 tag] w fun e w' => e = .returned (.bool true) ∧ Below w.heap.size w w' := by
  have HI0 := Lib.hid h
  obtain ⟨sa, sc, rfl, hm, -⟩ := h
  unfold maxLen at hm
  replace h4 := Lib.hid h4
  replace hb := Lib.hid hb
  have HB0 := Lib.hid (Below.refl w.heap.size w)
  go_enter Try.func4, Try.ntmps4
  have FI_1 := Lib.hid (HI0.out.step (al w (.cells #[.int .i64 a, .int .i64 b, .int .i64 c, .int .i64 d, .slice sa l.length sc, .int .i64 t] 24)))
  clear HI0
  have FF_2 := Lib.hid (Cs.new w (w.heap.size) #[.int .i64 a, .int .i64 b, .int .i64 c, .int .i64 d, .slice sa l.length sc, .int .i64 t] 24 (by simp))
  have HB3 : Hid (Below w.heap.size w (w.alloc (.cells #[.int .i64 a, .int .i64 b, .int .i64 c, .int .i64 d, .slice sa l.length sc, .int .i64 t] 24))) := HB0.out.alloc HB0.out.size _
  clear HB0
  go_wp2_with fail
  refine (head_any _).mono ?_
  rintro e u1 ⟨rfl, b1⟩
  have FI_4 := Lib.hid (FI_1.out.step b1)
  clear FI_1
  have FF_5 := Lib.hid (FF_2.out.step b1)
  clear FF_2
  have HB6 := Lib.hid (keep2 b1 HB3.out)
  clear HB3 b1
  have xF0 := FF_5.out.c 0 rfl
  have xF1 := FF_5.out.c 1 rfl
  have xF2 := FF_5.out.c 2 rfl
  have xF3 := FF_5.out.c 3 rfl
  have xF4 := FF_5.out.c 4 rfl
  have xF5 := FF_5.out.c 5 rfl
  have xzF := FF_5.out.2.2
  have g1 : decide ((l.length : Int) > 40) = false := by simp; have := h4.out; omega
  have g1b : decide ((40 : Int) < l.length) = false := by simp; have := h4.out; omega
  go_wp2_with fail
  refine (seal_bad key a b c d _ l t _ FI_4.out hb.out).mono ?_
  rintro e u2 ⟨u, rfl, hu, b2⟩
  clear xF0 xF1 xF2 xF3 xF4 xF5 xzF
  have FI_7 := Lib.hid (FI_4.out.step b2)
  clear FI_4
  have FF_8 := Lib.hid (FF_5.out.step b2)
  clear FF_5
  have HB9 := Lib.hid (keep2 b2 HB6.out)
  clear HB6 b2
  have FU_10 := Lib.hid (hu)
  obtain ⟨ua, uc, rfl, -, -⟩ := hu
  rw [show ([] : List Int).length = 0 from rfl]
  go_wp2_with fail
  have FI_11 := Lib.hid (FI_7.out.step (al u2 (.cells #[.int .i64 0, .int .i64 0, .int .i64 0, .int .i64 0, .slice ua 0 uc, .int .i64 0] 24)))
  clear FI_7
  have FF_12 := Lib.hid (FF_8.out.step (al u2 (.cells #[.int .i64 0, .int .i64 0, .int .i64 0, .int .i64 0, .slice ua 0 uc, .int .i64 0] 24)))
  clear FF_8
  have FU_13 := Lib.hid (FU_10.out.step (al u2 (.cells #[.int .i64 0, .int .i64 0, .int .i64 0, .int .i64 0, .slice ua 0 uc, .int .i64 0] 24)))
  clear FU_10
  have FS_14 := Lib.hid (Cs.new u2 (u2.heap.size) #[.int .i64 0, .int .i64 0, .int .i64 0, .int .i64 0, .slice ua 0 uc, .int .i64 0] 24 (by simp))
  have HB15 : Hid (Below w.heap.size w (u2.alloc (.cells #[.int .i64 0, .int .i64 0, .int .i64 0, .int .i64 0, .slice ua 0 uc, .int .i64 0] 24))) := HB9.out.alloc HB9.out.size _
  clear HB9
  refine (same_any 0 0 0 0 _ [] 0 0 0 0 0 _ [] 0 _ FU_13.out (ints_nil _)).mono ?_
  rintro e u3 ⟨rfl, b3⟩
  have FI_16 := Lib.hid (FI_11.out.step b3)
  clear FI_11
  have FF_17 := Lib.hid (FF_12.out.step b3)
  clear FF_12
  have FU_18 := Lib.hid (FU_13.out.step b3)
  clear FU_13
  have FS_19 := Lib.hid (FS_14.out.step b3)
  clear FS_14
  have HB20 := Lib.hid (keep2 b3 HB15.out)
  clear HB15 b3
  rw [same_self]
  go_wp2
  go_ret
  exact ⟨rfl, HB20.out⟩
set_option maxRecDepth 100000 in
set_option maxHeartbeats 8000000 in
theorem fs_good (key a b c d : Int) (sl : Value) (l : List Int) (t tag : Int) (w : World) (h : IntsAt w sl l) (h4 : l.length ≤ 40) (hb : slB key a b c d l = true) : Calls Try.prog 4 #[.int .i64 key, .agg #[.int .i64 a, .int .i64 b, .int .i64 c, .int .i64 d, sl, .int .i64 t], .int .i64 tag] w fun e w' => e = .returned (.bool true) ∧ Below w.heap.size w w' := by
  have HI0 := Lib.hid h
  obtain ⟨sa, sc, rfl, hm, -⟩ := h
  unfold maxLen at hm
  replace h4 := Lib.hid h4
  replace hb := Lib.hid hb
  have HB0 := Lib.hid (Below.refl w.heap.size w)
  go_enter Try.func4, Try.ntmps4
  have FI_1 := Lib.hid (HI0.out.step (al w (.cells #[.int .i64 a, .int .i64 b, .int .i64 c, .int .i64 d, .slice sa l.length sc, .int .i64 t] 24)))
  clear HI0
  have FF_2 := Lib.hid (Cs.new w (w.heap.size) #[.int .i64 a, .int .i64 b, .int .i64 c, .int .i64 d, .slice sa l.length sc, .int .i64 t] 24 (by simp))
  have HB3 : Hid (Below w.heap.size w (w.alloc (.cells #[.int .i64 a, .int .i64 b, .int .i64 c, .int .i64 d, .slice sa l.length sc, .int .i64 t] 24))) := HB0.out.alloc HB0.out.size _
  clear HB0
  go_wp2_with fail
  refine (head_any _).mono ?_
  rintro e u1 ⟨rfl, b1⟩
  have FI_4 := Lib.hid (FI_1.out.step b1)
  clear FI_1
  have FF_5 := Lib.hid (FF_2.out.step b1)
  clear FF_2
  have HB6 := Lib.hid (keep2 b1 HB3.out)
  clear HB3 b1
  have xF0 := FF_5.out.c 0 rfl
  have xF1 := FF_5.out.c 1 rfl
  have xF2 := FF_5.out.c 2 rfl
  have xF3 := FF_5.out.c 3 rfl
  have xF4 := FF_5.out.c 4 rfl
  have xF5 := FF_5.out.c 5 rfl
  have xzF := FF_5.out.2.2
  have g1 : decide ((l.length : Int) > 40) = false := by simp; have := h4.out; omega
  have g1b : decide ((40 : Int) < l.length) = false := by simp; have := h4.out; omega
  go_wp2_with fail
  refine (seal_good key a b c d _ l t _ FI_4.out hb.out).mono ?_
  rintro e u2 ⟨u, rfl, hu, b2⟩
  clear xF0 xF1 xF2 xF3 xF4 xF5 xzF
  have FI_7 := Lib.hid (FI_4.out.step b2)
  clear FI_4
  have FF_8 := Lib.hid (FF_5.out.step b2)
  clear FF_5
  have HB9 := Lib.hid (keep2 b2 HB6.out)
  clear HB6 b2
  obtain ⟨T, hT⟩ : ∃ z, tgF key a b c d l = z := ⟨_, rfl⟩
  rw [hT]
  have HT := Lib.hid hT
  clear hT g1 g1b
  have FU_10 := Lib.hid (hu)
  obtain ⟨ua, uc, rfl, -, -⟩ := hu
  have xF0 := FF_8.out.c 0 rfl
  have xF1 := FF_8.out.c 1 rfl
  have xF2 := FF_8.out.c 2 rfl
  have xF3 := FF_8.out.c 3 rfl
  have xF4 := FF_8.out.c 4 rfl
  have xF5 := FF_8.out.c 5 rfl
  have xzF := FF_8.out.2.2
  go_wp2_with fail
  have FI_11 := Lib.hid (FI_7.out.step (al u2 (.cells #[.int .i64 a, .int .i64 b, .int .i64 c, .int .i64 d, .slice ua l.length uc, .int .i64 T] 24)))
  clear FI_7
  have FF_12 := Lib.hid (FF_8.out.step (al u2 (.cells #[.int .i64 a, .int .i64 b, .int .i64 c, .int .i64 d, .slice ua l.length uc, .int .i64 T] 24)))
  clear FF_8
  have FU_13 := Lib.hid (FU_10.out.step (al u2 (.cells #[.int .i64 a, .int .i64 b, .int .i64 c, .int .i64 d, .slice ua l.length uc, .int .i64 T] 24)))
  clear FU_10
  have FS_14 := Lib.hid (Cs.new u2 (u2.heap.size) #[.int .i64 a, .int .i64 b, .int .i64 c, .int .i64 d, .slice ua l.length uc, .int .i64 T] 24 (by simp))
  have HB15 : Hid (Below w.heap.size w (u2.alloc (.cells #[.int .i64 a, .int .i64 b, .int .i64 c, .int .i64 d, .slice ua l.length uc, .int .i64 T] 24))) := HB9.out.alloc HB9.out.size _
  clear HB9
  have FI_16 := Lib.hid (FI_11.out.step (al (u2.alloc (.cells #[.int .i64 a, .int .i64 b, .int .i64 c, .int .i64 d, .slice ua l.length uc, .int .i64 T] 24)) (.cells #[.int .i64 a, .int .i64 b, .int .i64 c, .int .i64 d, .slice ua l.length uc, .int .i64 t] 24)))
  clear FI_11
  have FF_17 := Lib.hid (FF_12.out.step (al (u2.alloc (.cells #[.int .i64 a, .int .i64 b, .int .i64 c, .int .i64 d, .slice ua l.length uc, .int .i64 T] 24)) (.cells #[.int .i64 a, .int .i64 b, .int .i64 c, .int .i64 d, .slice ua l.length uc, .int .i64 t] 24)))
  clear FF_12
  have FU_18 := Lib.hid (FU_13.out.step (al (u2.alloc (.cells #[.int .i64 a, .int .i64 b, .int .i64 c, .int .i64 d, .slice ua l.length uc, .int .i64 T] 24)) (.cells #[.int .i64 a, .int .i64 b, .int .i64 c, .int .i64 d, .slice ua l.length uc, .int .i64 t] 24)))
  clear FU_13
  have FS_19 := Lib.hid (FS_14.out.step (al (u2.alloc (.cells #[.int .i64 a, .int .i64 b, .int .i64 c, .int .i64 d, .slice ua l.length uc, .int .i64 T] 24)) (.cells #[.int .i64 a, .int .i64 b, .int .i64 c, .int .i64 d, .slice ua l.length uc, .int .i64 t] 24)))
  clear FS_14
  have FP_20 := Lib.hid (Cs.new (u2.alloc (.cells #[.int .i64 a, .int .i64 b, .int .i64 c, .int .i64 d, .slice ua l.length uc, .int .i64 T] 24)) (u2.heap.size + 1) #[.int .i64 a, .int .i64 b, .int .i64 c, .int .i64 d, .slice ua l.length uc, .int .i64 t] 24 (by simp))
  have HB21 : Hid (Below w.heap.size w ((u2.alloc (.cells #[.int .i64 a, .int .i64 b, .int .i64 c, .int .i64 d, .slice ua l.length uc, .int .i64 T] 24)).alloc (.cells #[.int .i64 a, .int .i64 b, .int .i64 c, .int .i64 d, .slice ua l.length uc, .int .i64 t] 24))) := HB15.out.alloc HB15.out.size _
  clear HB15
  refine (seal_good key a b c d _ l T _ FU_18.out hb.out).mono ?_
  rintro e u3 ⟨u, rfl, hu, b3⟩
  clear xF0 xF1 xF2 xF3 xF4 xF5 xzF
  have FI_22 := Lib.hid (FI_16.out.step b3)
  clear FI_16
  have FF_23 := Lib.hid (FF_17.out.step b3)
  clear FF_17
  have FU_24 := Lib.hid (FU_18.out.step b3)
  clear FU_18
  have FS_25 := Lib.hid (FS_19.out.step b3)
  clear FS_19
  have FP_26 := Lib.hid (FP_20.out.step b3)
  clear FP_20
  have HB27 := Lib.hid (keep2 b3 HB21.out)
  clear HB21 b3
  rw [HT.out]
  have FV_28 := Lib.hid (hu)
  obtain ⟨va, vc, rfl, -, -⟩ := hu
  have xS0 := FS_25.out.c 0 rfl
  have xS1 := FS_25.out.c 1 rfl
  have xS2 := FS_25.out.c 2 rfl
  have xS3 := FS_25.out.c 3 rfl
  have xS4 := FS_25.out.c 4 rfl
  have xS5 := FS_25.out.c 5 rfl
  have xzS := FS_25.out.2.2
  go_wp2_with fail
  have FI_29 := Lib.hid (FI_22.out.step (al u3 (.cells #[.int .i64 a, .int .i64 b, .int .i64 c, .int .i64 d, .slice va l.length vc, .int .i64 T] 24)))
  clear FI_22
  have FF_30 := Lib.hid (FF_23.out.step (al u3 (.cells #[.int .i64 a, .int .i64 b, .int .i64 c, .int .i64 d, .slice va l.length vc, .int .i64 T] 24)))
  clear FF_23
  have FU_31 := Lib.hid (FU_24.out.step (al u3 (.cells #[.int .i64 a, .int .i64 b, .int .i64 c, .int .i64 d, .slice va l.length vc, .int .i64 T] 24)))
  clear FU_24
  have FS_32 := Lib.hid (FS_25.out.step (al u3 (.cells #[.int .i64 a, .int .i64 b, .int .i64 c, .int .i64 d, .slice va l.length vc, .int .i64 T] 24)))
  clear FS_25
  have FP_33 := Lib.hid (FP_26.out.step (al u3 (.cells #[.int .i64 a, .int .i64 b, .int .i64 c, .int .i64 d, .slice va l.length vc, .int .i64 T] 24)))
  clear FP_26
  have FV_34 := Lib.hid (FV_28.out.step (al u3 (.cells #[.int .i64 a, .int .i64 b, .int .i64 c, .int .i64 d, .slice va l.length vc, .int .i64 T] 24)))
  clear FV_28
  have FQ_35 := Lib.hid (Cs.new u3 (u3.heap.size) #[.int .i64 a, .int .i64 b, .int .i64 c, .int .i64 d, .slice va l.length vc, .int .i64 T] 24 (by simp))
  have HB36 : Hid (Below w.heap.size w (u3.alloc (.cells #[.int .i64 a, .int .i64 b, .int .i64 c, .int .i64 d, .slice va l.length vc, .int .i64 T] 24))) := HB27.out.alloc HB27.out.size _
  clear HB27
  have FI_37 := Lib.hid (FI_29.out.step (al (u3.alloc (.cells #[.int .i64 a, .int .i64 b, .int .i64 c, .int .i64 d, .slice va l.length vc, .int .i64 T] 24)) (.cells #[.int .i64 a, .int .i64 b, .int .i64 c, .int .i64 d, .slice ua l.length uc, .int .i64 tag] 24)))
  clear FI_29
  have FF_38 := Lib.hid (FF_30.out.step (al (u3.alloc (.cells #[.int .i64 a, .int .i64 b, .int .i64 c, .int .i64 d, .slice va l.length vc, .int .i64 T] 24)) (.cells #[.int .i64 a, .int .i64 b, .int .i64 c, .int .i64 d, .slice ua l.length uc, .int .i64 tag] 24)))
  clear FF_30
  have FU_39 := Lib.hid (FU_31.out.step (al (u3.alloc (.cells #[.int .i64 a, .int .i64 b, .int .i64 c, .int .i64 d, .slice va l.length vc, .int .i64 T] 24)) (.cells #[.int .i64 a, .int .i64 b, .int .i64 c, .int .i64 d, .slice ua l.length uc, .int .i64 tag] 24)))
  clear FU_31
  have FS_40 := Lib.hid (FS_32.out.step (al (u3.alloc (.cells #[.int .i64 a, .int .i64 b, .int .i64 c, .int .i64 d, .slice va l.length vc, .int .i64 T] 24)) (.cells #[.int .i64 a, .int .i64 b, .int .i64 c, .int .i64 d, .slice ua l.length uc, .int .i64 tag] 24)))
  clear FS_32
  have FP_41 := Lib.hid (FP_33.out.step (al (u3.alloc (.cells #[.int .i64 a, .int .i64 b, .int .i64 c, .int .i64 d, .slice va l.length vc, .int .i64 T] 24)) (.cells #[.int .i64 a, .int .i64 b, .int .i64 c, .int .i64 d, .slice ua l.length uc, .int .i64 tag] 24)))
  clear FP_33
  have FV_42 := Lib.hid (FV_34.out.step (al (u3.alloc (.cells #[.int .i64 a, .int .i64 b, .int .i64 c, .int .i64 d, .slice va l.length vc, .int .i64 T] 24)) (.cells #[.int .i64 a, .int .i64 b, .int .i64 c, .int .i64 d, .slice ua l.length uc, .int .i64 tag] 24)))
  clear FV_34
  have FQ_43 := Lib.hid (FQ_35.out.step (al (u3.alloc (.cells #[.int .i64 a, .int .i64 b, .int .i64 c, .int .i64 d, .slice va l.length vc, .int .i64 T] 24)) (.cells #[.int .i64 a, .int .i64 b, .int .i64 c, .int .i64 d, .slice ua l.length uc, .int .i64 tag] 24)))
  clear FQ_35
  have FO_44 := Lib.hid (Cs.new (u3.alloc (.cells #[.int .i64 a, .int .i64 b, .int .i64 c, .int .i64 d, .slice va l.length vc, .int .i64 T] 24)) (u3.heap.size + 1) #[.int .i64 a, .int .i64 b, .int .i64 c, .int .i64 d, .slice ua l.length uc, .int .i64 tag] 24 (by simp))
  have HB45 : Hid (Below w.heap.size w ((u3.alloc (.cells #[.int .i64 a, .int .i64 b, .int .i64 c, .int .i64 d, .slice va l.length vc, .int .i64 T] 24)).alloc (.cells #[.int .i64 a, .int .i64 b, .int .i64 c, .int .i64 d, .slice ua l.length uc, .int .i64 tag] 24))) := HB36.out.alloc HB36.out.size _
  clear HB36
  refine (open_any key a b c d _ l tag _ FU_39.out).mono ?_
  rintro e u4 ⟨rfl, b4⟩
  clear xS0 xS1 xS2 xS3 xS4 xS5 xzS
  have FI_46 := Lib.hid (FI_37.out.step b4)
  clear FI_37
  have FF_47 := Lib.hid (FF_38.out.step b4)
  clear FF_38
  have FU_48 := Lib.hid (FU_39.out.step b4)
  clear FU_39
  have FS_49 := Lib.hid (FS_40.out.step b4)
  clear FS_40
  have FP_50 := Lib.hid (FP_41.out.step b4)
  clear FP_41
  have FV_51 := Lib.hid (FV_42.out.step b4)
  clear FV_42
  have FQ_52 := Lib.hid (FQ_43.out.step b4)
  clear FQ_43
  have FO_53 := Lib.hid (FO_44.out.step b4)
  clear FO_44
  have HB54 := Lib.hid (keep2 b4 HB45.out)
  clear HB45 b4
  have HO := Lib.hid (op_sealed hb.out tag)
  rw [HT.out] at HO
  have HOO := Lib.hid (op_sealed hb.out T)
  rw [HT.out] at HOO
  obtain ⟨eo, heo⟩ : ∃ z, opE key a b c d l tag = z := ⟨_, rfl⟩
  rw [heo] at HO ⊢
  clear heo
  have HO1 := Lib.hid (HOO.out.2 rfl)
  have xP0 := FP_50.out.c 0 rfl
  have xP1 := FP_50.out.c 1 rfl
  have xP2 := FP_50.out.c 2 rfl
  have xP3 := FP_50.out.c 3 rfl
  have xP4 := FP_50.out.c 4 rfl
  have xP5 := FP_50.out.c 5 rfl
  have xzP := FP_50.out.2.2
  have yF0 := FF_47.out.c 0 rfl
  have yF1 := FF_47.out.c 1 rfl
  have yF2 := FF_47.out.c 2 rfl
  have yF3 := FF_47.out.c 3 rfl
  have yF4 := FF_47.out.c 4 rfl
  have yF5 := FF_47.out.c 5 rfl
  have yzF := FF_47.out.2.2
  go_wp2_with fail
  refine (same_any a b c d _ l t a b c d _ l t _ FU_48.out FI_46.out).mono ?_
  rintro e u5 ⟨rfl, b5⟩
  clear xP0 xP1 xP2 xP3 xP4 xP5 xzP yF0 yF1 yF2 yF3 yF4 yF5 yzF
  have FI_55 := Lib.hid (FI_46.out.step b5)
  clear FI_46
  have FF_56 := Lib.hid (FF_47.out.step b5)
  clear FF_47
  have FU_57 := Lib.hid (FU_48.out.step b5)
  clear FU_48
  have FS_58 := Lib.hid (FS_49.out.step b5)
  clear FS_49
  have FP_59 := Lib.hid (FP_50.out.step b5)
  clear FP_50
  have FV_60 := Lib.hid (FV_51.out.step b5)
  clear FV_51
  have FQ_61 := Lib.hid (FQ_52.out.step b5)
  clear FQ_52
  have FO_62 := Lib.hid (FO_53.out.step b5)
  clear FO_53
  have HB63 := Lib.hid (keep2 b5 HB54.out)
  clear HB54 b5
  rw [same_self]
  have xS0 := FS_58.out.c 0 rfl
  have xS1 := FS_58.out.c 1 rfl
  have xS2 := FS_58.out.c 2 rfl
  have xS3 := FS_58.out.c 3 rfl
  have xS4 := FS_58.out.c 4 rfl
  have xS5 := FS_58.out.c 5 rfl
  have xzS := FS_58.out.2.2
  go_wp2_with fail
  refine (open_any key a b c d _ l T _ FU_57.out).mono ?_
  rintro e u6 ⟨rfl, b6⟩
  clear xS0 xS1 xS2 xS3 xS4 xS5 xzS
  have FI_64 := Lib.hid (FI_55.out.step b6)
  clear FI_55
  have FF_65 := Lib.hid (FF_56.out.step b6)
  clear FF_56
  have FU_66 := Lib.hid (FU_57.out.step b6)
  clear FU_57
  have FS_67 := Lib.hid (FS_58.out.step b6)
  clear FS_58
  have FP_68 := Lib.hid (FP_59.out.step b6)
  clear FP_59
  have FV_69 := Lib.hid (FV_60.out.step b6)
  clear FV_60
  have FQ_70 := Lib.hid (FQ_61.out.step b6)
  clear FQ_61
  have FO_71 := Lib.hid (FO_62.out.step b6)
  clear FO_62
  have HB72 := Lib.hid (keep2 b6 HB63.out)
  clear HB63 b6
  rw [HO1.out]
  have xS0 := FS_67.out.c 0 rfl
  have xS1 := FS_67.out.c 1 rfl
  have xS2 := FS_67.out.c 2 rfl
  have xS3 := FS_67.out.c 3 rfl
  have xS4 := FS_67.out.c 4 rfl
  have xS5 := FS_67.out.c 5 rfl
  have xzS := FS_67.out.2.2
  have yQ0 := FQ_70.out.c 0 rfl
  have yQ1 := FQ_70.out.c 1 rfl
  have yQ2 := FQ_70.out.c 2 rfl
  have yQ3 := FQ_70.out.c 3 rfl
  have yQ4 := FQ_70.out.c 4 rfl
  have yQ5 := FQ_70.out.c 5 rfl
  have yzQ := FQ_70.out.2.2
  go_wp2_with fail
  refine (same_any a b c d _ l T a b c d _ l T _ FV_69.out FU_66.out).mono ?_
  rintro e u7 ⟨rfl, b7⟩
  clear xS0 xS1 xS2 xS3 xS4 xS5 xzS yQ0 yQ1 yQ2 yQ3 yQ4 yQ5 yzQ
  have FI_73 := Lib.hid (FI_64.out.step b7)
  clear FI_64
  have FF_74 := Lib.hid (FF_65.out.step b7)
  clear FF_65
  have FU_75 := Lib.hid (FU_66.out.step b7)
  clear FU_66
  have FS_76 := Lib.hid (FS_67.out.step b7)
  clear FS_67
  have FP_77 := Lib.hid (FP_68.out.step b7)
  clear FP_68
  have FV_78 := Lib.hid (FV_69.out.step b7)
  clear FV_69
  have FQ_79 := Lib.hid (FQ_70.out.step b7)
  clear FQ_70
  have FO_80 := Lib.hid (FO_71.out.step b7)
  clear FO_71
  have HB81 := Lib.hid (keep2 b7 HB72.out)
  clear HB72 b7
  rw [same_self]
  have HF := Lib.hid HB81.out
  have xS5 := FS_76.out.c 5 rfl
  have xzS := FS_76.out.2.2
  by_cases hq : tag = T
  · have e1 : (tag == T) = true := by simpa using hq
    have e2 : (eo == 0) = true := by simpa using HO.out.2 hq
    have e3 : (eo = 0) = True := by simpa using HO.out.2 hq
    have e4 : (tag = T) = True := by simpa using hq
    clear hq
    go_wp2
    go_ret
    exact ⟨rfl, HF.out⟩
  · have e1 : (tag == T) = false := by simpa using hq
    have hz : ¬ eo = 0 := fun e => hq (HO.out.1 e)
    have e2 : (eo == 0) = false := by simpa using hz
    have e3 : (eo = 0) = False := by simpa using hz
    have e4 : (tag = T) = False := by simpa using hq
    clear hq hz
    go_wp2
    go_ret
    exact ⟨rfl, HF.out⟩
theorem sealed_any (key a b c d : Int) (sl : Value) (l : List Int) (t tag : Int) (w : World) (h : IntsAt w sl l) : Calls Try.prog 4 #[.int .i64 key, .agg #[.int .i64 a, .int .i64 b, .int .i64 c, .int .i64 d, sl, .int .i64 t], .int .i64 tag] w fun e w' => e = .returned (.bool true) ∧ Below w.heap.size w w' := by
  by_cases h4 : 40 < l.length
  · exact fs_long key a b c d sl l t tag w h h4
  · cases hb : slB key a b c d l
    · exact fs_bad key a b c d sl l t tag w h (by omega) hb
    · exact fs_good key a b c d sl l t tag w h (by omega) hb
end Go.Proofs.Ytebeaekiaikgmaa
