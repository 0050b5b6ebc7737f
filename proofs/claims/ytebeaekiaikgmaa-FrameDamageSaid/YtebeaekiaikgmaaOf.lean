/- Law FrameDamage, the walk. -/
import Derived.Test.YtebeaekiaikgmaaOe
namespace Go.Proofs.Ytebeaekiaikgmaa
open Go.RowKit

theorem set_self {E : List Int} {k : Nat} (hk : k < E.length) : E = E.set k (E.getD k 0) := by simp [hk]
set_option maxRecDepth 100000 in
set_option maxHeartbeats 8000000 in
theorem fd_a (a b c d : Int) (sl : Value) (l : List Int) (t : Int) (at_ : Int) (vl : Int) (v : Value) (more : List Int) (w : World) (h : IntsAt w sl l) (ha0 : 0 ≤ at_) (ha1 : at_ ≤ 65535) (hv0 : 0 ≤ vl) (hv1 : vl ≤ 255) (h' : BysAt w v more) (hby : IsBy more) (h4 : 32 < l.length) : Calls Try.prog 7 #[.agg #[.int .i64 a, .int .i64 b, .int .i64 c, .int .i64 d, sl, .int .i64 t], .int .u16 at_, .int .u8 vl, v] w fun e w' => e = .returned (.bool true) ∧ Below w.heap.size w w' := by
  have HI0 := Lib.hid h
  have HY0 := Lib.hid h'
  replace hby := Lib.hid hby
  obtain ⟨sa, sc, rfl, hm, -⟩ := h
  obtain ⟨ra, rc, rfl, -, hm', -⟩ := h'
  unfold maxLen at hm hm'
  replace hv0 := Lib.hid (show 0 ≤ vl ∧ vl ≤ 255 from ⟨hv0, hv1⟩)
  clear hv1
  replace ha0 := Lib.hid (show 0 ≤ at_ ∧ at_ ≤ 65535 from ⟨ha0, ha1⟩)
  clear ha1
  replace h4 := Lib.hid h4
  have HB0 := Lib.hid (Below.refl w.heap.size w)
  go_enter Try.func7, Try.ntmps7
  have FI_1 := Lib.hid (HI0.out.step (al w (.cells #[.int .i64 a, .int .i64 b, .int .i64 c, .int .i64 d, .slice sa l.length sc, .int .i64 t] 24)))
  clear HI0
  have FM_2 := Lib.hid (HY0.out.step (al w (.cells #[.int .i64 a, .int .i64 b, .int .i64 c, .int .i64 d, .slice sa l.length sc, .int .i64 t] 24)))
  clear HY0
  have FF_3 := Lib.hid (Cs.new w (w.heap.size) #[.int .i64 a, .int .i64 b, .int .i64 c, .int .i64 d, .slice sa l.length sc, .int .i64 t] 24 (by simp))
  have HB4 : Hid (Below w.heap.size w (w.alloc (.cells #[.int .i64 a, .int .i64 b, .int .i64 c, .int .i64 d, .slice sa l.length sc, .int .i64 t] 24))) := HB0.out.alloc HB0.out.size _
  clear HB0
  go_wp2_with fail
  refine (head_any _).mono ?_
  rintro e u1 ⟨rfl, b1⟩
  have FI_5 := Lib.hid (FI_1.out.step b1)
  clear FI_1
  have FM_6 := Lib.hid (FM_2.out.step b1)
  clear FM_2
  have FF_7 := Lib.hid (FF_3.out.step b1)
  clear FF_3
  have HB8 := Lib.hid (keep2 b1 HB4.out)
  clear HB4 b1
  have xF0 := FF_7.out.c 0 rfl
  have xF1 := FF_7.out.c 1 rfl
  have xF2 := FF_7.out.c 2 rfl
  have xF3 := FF_7.out.c 3 rfl
  have xF4 := FF_7.out.c 4 rfl
  have xF5 := FF_7.out.c 5 rfl
  have xzF := FF_7.out.2.2
  have g1 : decide ((l.length : Int) > 32) = true := by simp; have := h4.out; omega
  have g1b : decide ((32 : Int) < l.length) = true := by simp; have := h4.out; omega
  go_wp2
  go_ret
  exact ⟨rfl, HB8.out⟩
set_option maxRecDepth 100000 in
set_option maxHeartbeats 8000000 in
theorem fd_b (a b c d : Int) (sl : Value) (l : List Int) (t : Int) (at_ : Int) (vl : Int) (v : Value) (more : List Int) (w : World) (h : IntsAt w sl l) (ha0 : 0 ≤ at_) (ha1 : at_ ≤ 65535) (hv0 : 0 ≤ vl) (hv1 : vl ≤ 255) (h' : BysAt w v more) (hby : IsBy more) (h4 : l.length ≤ 32) (hv : vaB a b c d l t = false) : Calls Try.prog 7 #[.agg #[.int .i64 a, .int .i64 b, .int .i64 c, .int .i64 d, sl, .int .i64 t], .int .u16 at_, .int .u8 vl, v] w fun e w' => e = .returned (.bool true) ∧ Below w.heap.size w w' := by
  have HI0 := Lib.hid h
  have HY0 := Lib.hid h'
  replace hby := Lib.hid hby
  obtain ⟨sa, sc, rfl, hm, -⟩ := h
  obtain ⟨ra, rc, rfl, -, hm', -⟩ := h'
  unfold maxLen at hm hm'
  replace hv0 := Lib.hid (show 0 ≤ vl ∧ vl ≤ 255 from ⟨hv0, hv1⟩)
  clear hv1
  replace ha0 := Lib.hid (show 0 ≤ at_ ∧ at_ ≤ 65535 from ⟨ha0, ha1⟩)
  clear ha1
  replace h4 := Lib.hid h4
  replace hv := Lib.hid hv
  have HB0 := Lib.hid (Below.refl w.heap.size w)
  go_enter Try.func7, Try.ntmps7
  have FI_1 := Lib.hid (HI0.out.step (al w (.cells #[.int .i64 a, .int .i64 b, .int .i64 c, .int .i64 d, .slice sa l.length sc, .int .i64 t] 24)))
  clear HI0
  have FM_2 := Lib.hid (HY0.out.step (al w (.cells #[.int .i64 a, .int .i64 b, .int .i64 c, .int .i64 d, .slice sa l.length sc, .int .i64 t] 24)))
  clear HY0
  have FF_3 := Lib.hid (Cs.new w (w.heap.size) #[.int .i64 a, .int .i64 b, .int .i64 c, .int .i64 d, .slice sa l.length sc, .int .i64 t] 24 (by simp))
  have HB4 : Hid (Below w.heap.size w (w.alloc (.cells #[.int .i64 a, .int .i64 b, .int .i64 c, .int .i64 d, .slice sa l.length sc, .int .i64 t] 24))) := HB0.out.alloc HB0.out.size _
  clear HB0
  go_wp2_with fail
  refine (head_any _).mono ?_
  rintro e u1 ⟨rfl, b1⟩
  have FI_5 := Lib.hid (FI_1.out.step b1)
  clear FI_1
  have FM_6 := Lib.hid (FM_2.out.step b1)
  clear FM_2
  have FF_7 := Lib.hid (FF_3.out.step b1)
  clear FF_3
  have HB8 := Lib.hid (keep2 b1 HB4.out)
  clear HB4 b1
  have xF0 := FF_7.out.c 0 rfl
  have xF1 := FF_7.out.c 1 rfl
  have xF2 := FF_7.out.c 2 rfl
  have xF3 := FF_7.out.c 3 rfl
  have xF4 := FF_7.out.c 4 rfl
  have xF5 := FF_7.out.c 5 rfl
  have xzF := FF_7.out.2.2
  have g1 : decide ((l.length : Int) > 32) = false := by simp; have := h4.out; omega
  have g1b : decide ((32 : Int) < l.length) = false := by simp; have := h4.out; omega
  go_wp2_with fail
  refine (valid_any a b c d _ l t _ FI_5.out).mono ?_
  rintro e u2 ⟨rfl, b2⟩
  clear xF0 xF1 xF2 xF3 xF4 xF5 xzF
  have FI_9 := Lib.hid (FI_5.out.step b2)
  clear FI_5
  have FM_10 := Lib.hid (FM_6.out.step b2)
  clear FM_6
  have FF_11 := Lib.hid (FF_7.out.step b2)
  clear FF_7
  have HB12 := Lib.hid (keep2 b2 HB8.out)
  clear HB8 b2
  rw [hv.out]
  have xF0 := FF_11.out.c 0 rfl
  have xF1 := FF_11.out.c 1 rfl
  have xF2 := FF_11.out.c 2 rfl
  have xF3 := FF_11.out.c 3 rfl
  have xF4 := FF_11.out.c 4 rfl
  have xF5 := FF_11.out.c 5 rfl
  have xzF := FF_11.out.2.2
  go_wp2
  go_ret
  exact ⟨rfl, HB12.out⟩
set_option maxRecDepth 100000 in
set_option maxHeartbeats 8000000 in
theorem fd_c (a b c d : Int) (sl : Value) (l : List Int) (t : Int) (at_ : Int) (vl : Int) (v : Value) (more : List Int) (w : World) (h : IntsAt w sl l) (ha0 : 0 ≤ at_) (ha1 : at_ ≤ 65535) (hv0 : 0 ≤ vl) (hv1 : vl ≤ 255) (h' : BysAt w v more) (hby : IsBy more) (h4 : l.length ≤ 32) (hv : vaB a b c d l t = true) (h5 : 100 < more.length) : Calls Try.prog 7 #[.agg #[.int .i64 a, .int .i64 b, .int .i64 c, .int .i64 d, sl, .int .i64 t], .int .u16 at_, .int .u8 vl, v] w fun e w' => e = .returned (.bool true) ∧ Below w.heap.size w w' := by
  have HI0 := Lib.hid h
  have HY0 := Lib.hid h'
  replace hby := Lib.hid hby
  obtain ⟨sa, sc, rfl, hm, -⟩ := h
  obtain ⟨ra, rc, rfl, -, hm', -⟩ := h'
  unfold maxLen at hm hm'
  replace hv0 := Lib.hid (show 0 ≤ vl ∧ vl ≤ 255 from ⟨hv0, hv1⟩)
  clear hv1
  replace ha0 := Lib.hid (show 0 ≤ at_ ∧ at_ ≤ 65535 from ⟨ha0, ha1⟩)
  clear ha1
  replace h4 := Lib.hid h4
  replace hv := Lib.hid hv
  replace h5 := Lib.hid h5
  have HB0 := Lib.hid (Below.refl w.heap.size w)
  go_enter Try.func7, Try.ntmps7
  have FI_1 := Lib.hid (HI0.out.step (al w (.cells #[.int .i64 a, .int .i64 b, .int .i64 c, .int .i64 d, .slice sa l.length sc, .int .i64 t] 24)))
  clear HI0
  have FM_2 := Lib.hid (HY0.out.step (al w (.cells #[.int .i64 a, .int .i64 b, .int .i64 c, .int .i64 d, .slice sa l.length sc, .int .i64 t] 24)))
  clear HY0
  have FF_3 := Lib.hid (Cs.new w (w.heap.size) #[.int .i64 a, .int .i64 b, .int .i64 c, .int .i64 d, .slice sa l.length sc, .int .i64 t] 24 (by simp))
  have HB4 : Hid (Below w.heap.size w (w.alloc (.cells #[.int .i64 a, .int .i64 b, .int .i64 c, .int .i64 d, .slice sa l.length sc, .int .i64 t] 24))) := HB0.out.alloc HB0.out.size _
  clear HB0
  go_wp2_with fail
  refine (head_any _).mono ?_
  rintro e u1 ⟨rfl, b1⟩
  have FI_5 := Lib.hid (FI_1.out.step b1)
  clear FI_1
  have FM_6 := Lib.hid (FM_2.out.step b1)
  clear FM_2
  have FF_7 := Lib.hid (FF_3.out.step b1)
  clear FF_3
  have HB8 := Lib.hid (keep2 b1 HB4.out)
  clear HB4 b1
  have xF0 := FF_7.out.c 0 rfl
  have xF1 := FF_7.out.c 1 rfl
  have xF2 := FF_7.out.c 2 rfl
  have xF3 := FF_7.out.c 3 rfl
  have xF4 := FF_7.out.c 4 rfl
  have xF5 := FF_7.out.c 5 rfl
  have xzF := FF_7.out.2.2
  have g1 : decide ((l.length : Int) > 32) = false := by simp; have := h4.out; omega
  have g1b : decide ((32 : Int) < l.length) = false := by simp; have := h4.out; omega
  have g2 : decide ((more.length : Int) > 100) = true := by simp; have := h5.out; omega
  have g2b : decide ((100 : Int) < more.length) = true := by simp; have := h5.out; omega
  go_wp2_with fail
  refine (valid_any a b c d _ l t _ FI_5.out).mono ?_
  rintro e u2 ⟨rfl, b2⟩
  clear xF0 xF1 xF2 xF3 xF4 xF5 xzF
  have FI_9 := Lib.hid (FI_5.out.step b2)
  clear FI_5
  have FM_10 := Lib.hid (FM_6.out.step b2)
  clear FM_6
  have FF_11 := Lib.hid (FF_7.out.step b2)
  clear FF_7
  have HB12 := Lib.hid (keep2 b2 HB8.out)
  clear HB8 b2
  rw [hv.out]
  have xF0 := FF_11.out.c 0 rfl
  have xF1 := FF_11.out.c 1 rfl
  have xF2 := FF_11.out.c 2 rfl
  have xF3 := FF_11.out.c 3 rfl
  have xF4 := FF_11.out.c 4 rfl
  have xF5 := FF_11.out.c 5 rfl
  have xzF := FF_11.out.2.2
  go_wp2
  go_ret
  exact ⟨rfl, HB12.out⟩
set_option maxRecDepth 100000 in
set_option maxHeartbeats 8000000 in
theorem fd_d (a b c d : Int) (sl : Value) (l : List Int) (t : Int) (at_ : Int) (vl : Int) (v : Value) (more : List Int) (w : World) (h : IntsAt w sl l) (ha0 : 0 ≤ at_) (ha1 : at_ ≤ 65535) (hv0 : 0 ≤ vl) (hv1 : vl ≤ 255) (h' : BysAt w v more) (hby : IsBy more) (h4 : l.length ≤ 32) (hv : vaB a b c d l t = true) (h5 : more.length ≤ 100) : Calls Try.prog 7 #[.agg #[.int .i64 a, .int .i64 b, .int .i64 c, .int .i64 d, sl, .int .i64 t], .int .u16 at_, .int .u8 vl, v] w fun e w' => e = .returned (.bool true) ∧ Below w.heap.size w w' := by
  have HI0 := Lib.hid h
  have HY0 := Lib.hid h'
  replace hby := Lib.hid hby
  obtain ⟨sa, sc, rfl, hm, -⟩ := h
  obtain ⟨ra, rc, rfl, -, hm', -⟩ := h'
  unfold maxLen at hm hm'
  replace hv0 := Lib.hid (show 0 ≤ vl ∧ vl ≤ 255 from ⟨hv0, hv1⟩)
  clear hv1
  replace ha0 := Lib.hid (show 0 ≤ at_ ∧ at_ ≤ 65535 from ⟨ha0, ha1⟩)
  clear ha1
  replace h4 := Lib.hid h4
  replace hv := Lib.hid hv
  replace h5 := Lib.hid h5
  have HB0 := Lib.hid (Below.refl w.heap.size w)
  go_enter Try.func7, Try.ntmps7
  have FI_1 := Lib.hid (HI0.out.step (al w (.cells #[.int .i64 a, .int .i64 b, .int .i64 c, .int .i64 d, .slice sa l.length sc, .int .i64 t] 24)))
  clear HI0
  have FM_2 := Lib.hid (HY0.out.step (al w (.cells #[.int .i64 a, .int .i64 b, .int .i64 c, .int .i64 d, .slice sa l.length sc, .int .i64 t] 24)))
  clear HY0
  have FF_3 := Lib.hid (Cs.new w (w.heap.size) #[.int .i64 a, .int .i64 b, .int .i64 c, .int .i64 d, .slice sa l.length sc, .int .i64 t] 24 (by simp))
  have HB4 : Hid (Below w.heap.size w (w.alloc (.cells #[.int .i64 a, .int .i64 b, .int .i64 c, .int .i64 d, .slice sa l.length sc, .int .i64 t] 24))) := HB0.out.alloc HB0.out.size _
  clear HB0
  go_wp2_with fail
  refine (head_any _).mono ?_
  rintro e u1 ⟨rfl, b1⟩
  have FI_5 := Lib.hid (FI_1.out.step b1)
  clear FI_1
  have FM_6 := Lib.hid (FM_2.out.step b1)
  clear FM_2
  have FF_7 := Lib.hid (FF_3.out.step b1)
  clear FF_3
  have HB8 := Lib.hid (keep2 b1 HB4.out)
  clear HB4 b1
  have xF0 := FF_7.out.c 0 rfl
  have xF1 := FF_7.out.c 1 rfl
  have xF2 := FF_7.out.c 2 rfl
  have xF3 := FF_7.out.c 3 rfl
  have xF4 := FF_7.out.c 4 rfl
  have xF5 := FF_7.out.c 5 rfl
  have xzF := FF_7.out.2.2
  have g1 : decide ((l.length : Int) > 32) = false := by simp; have := h4.out; omega
  have g1b : decide ((32 : Int) < l.length) = false := by simp; have := h4.out; omega
  have g2 : decide ((more.length : Int) > 100) = false := by simp; have := h5.out; omega
  have g2b : decide ((100 : Int) < more.length) = false := by simp; have := h5.out; omega
  go_wp2_with fail
  refine (valid_any a b c d _ l t _ FI_5.out).mono ?_
  rintro e u2 ⟨rfl, b2⟩
  clear xF0 xF1 xF2 xF3 xF4 xF5 xzF
  have FI_9 := Lib.hid (FI_5.out.step b2)
  clear FI_5
  have FM_10 := Lib.hid (FM_6.out.step b2)
  clear FM_6
  have FF_11 := Lib.hid (FF_7.out.step b2)
  clear FF_7
  have HB12 := Lib.hid (keep2 b2 HB8.out)
  clear HB8 b2
  rw [hv.out]
  have xF0 := FF_11.out.c 0 rfl
  have xF1 := FF_11.out.c 1 rfl
  have xF2 := FF_11.out.c 2 rfl
  have xF3 := FF_11.out.c 3 rfl
  have xF4 := FF_11.out.c 4 rfl
  have xF5 := FF_11.out.c 5 rfl
  have xzF := FF_11.out.2.2
  clear xF0 xF1 xF2 xF3 xF4 xF5 xzF
  have FX := Lib.hid (FF_11.out.step (al u2 (.cells #[] 5)))
  have y0 := FX.out.c 0 rfl
  have z0 := FF_11.out.c 0 rfl
  have y1 := FX.out.c 1 rfl
  have z1 := FF_11.out.c 1 rfl
  have y2 := FX.out.c 2 rfl
  have z2 := FF_11.out.c 2 rfl
  have y3 := FX.out.c 3 rfl
  have z3 := FF_11.out.c 3 rfl
  have y4 := FX.out.c 4 rfl
  have z4 := FF_11.out.c 4 rfl
  have y5 := FX.out.c 5 rfl
  have z5 := FF_11.out.c 5 rfl
  have yz := FX.out.2.2
  have zz := FF_11.out.2.2
  go_wp2_with fail
  refine (encode_yes a b c d _ l t _ (FI_9.out.step (al u2 (.cells #[] 5))) hv.out).mono ?_
  rintro e u3 ⟨ev, rfl, hev, b3⟩
  clear FX y0 y1 y2 y3 y4 y5 yz z0 z1 z2 z3 z4 z5 zz g1 g1b g2 g2b
  obtain ⟨E, hE⟩ : ∃ z, encF a b c d l t = z := ⟨_, rfl⟩
  rw [hE] at hev
  have HEL := Lib.hid (show E.length = 23 + 4 * l.length by rw [← hE]; exact encF_len _ _ _ _ _ _)
  have HEB := Lib.hid (show IsBy E by rw [← hE]; exact encF_by _ _ _ _ _ _)
  have HEE := Lib.hid hE
  clear hE
  obtain ⟨v4, u4, q4, ⟨p4, c4, rfl⟩, hr4, hb4⟩ := app0 u2 u3 ev E 25 _ rfl b3 (bys_of_row hev) (by have := HEL.out; have := h4.out; omega)
  obtain ⟨ea, ec, rfl⟩ := row_slice hev
  clear hev b3
  clear FI_9
  clear FF_11
  have FM_13 := Lib.hid (FM_10.out.step hb4)
  clear FM_10
  have HB4 := Lib.hid (keep2 hb4 HB12.out)
  have HSZ := Lib.hid (show w.heap.size ≤ u2.heap.size ∧ u2.heap.size ≤ u4.heap.size from ⟨HB12.out.size, hb4.size⟩)
  clear HB12 hb4
  have hne : E ≠ [] := by intro e; have h1 := HEL.out; rw [e] at h1; simp at h1; omega
  obtain ⟨g, cc, hg⟩ := hr4.byl
  obtain ⟨hg1, hg2, hg3, hg4⟩ := hg hne
  obtain ⟨rfl, rfl⟩ : p4 = some ⟨g, 0, none⟩ ∧ c4 = cc := by simpa using hg1
  clear hg hg1
  have HG := Lib.hid (show E.length ≤ c4 ∧ g < u4.heap.size ∧ w.heap.size ≤ g from ⟨hg2, hg4, Nat.le_trans HSZ.out.1 hg3⟩)
  clear hg2 hg3 hg4
  have FE_14 := Lib.hid (hr4)
  clear hr4
  obtain ⟨n, hn⟩ := Int.eq_ofNat_of_zero_le ha0.out.1
  subst hn
  have l0 : 0 < E.length := by have := HEL.out; omega
  have l1 : (0 : Int) < E.length := by omega
  have l2 : ¬ E.length = 0 := by omega
  have l3 : (E = []) = False := by simp [hne]
  have l4 : ((E.length : Int) == 0) = false := by simp; omega
  have l5 : E.length ≤ 151 := by have := HEL.out; have := h4.out; omega
  have l6 := ha0.out.2
  obtain ⟨k, hk⟩ : ∃ k, n % E.length = k := ⟨_, rfl⟩
  have HK := Lib.hid (show k < E.length by rw [← hk]; exact Nat.mod_lt _ l0)
  have k1 : ((n : Int) % (E.length : Int)) = (k : Int) := by rw [← hk]; omega
  have k2 : (n : Int).tmod (E.length : Int) = (k : Int) := by rw [Int.tmod_eq_emod_of_nonneg (by omega), k1]
  have k3 : k ≤ c4 := by have := HK.out; have := HG.out; omega
  have k4 : (k : Int) ≤ c4 := by omega
  have k5 : k < E.length := HK.out
  have k6 : (k : Int) < E.length := by omega
  go_wp2_with (at_builtin; refine wpList_appI rfl _ _ 25 rfl _ _ (.slice (some ⟨g, 0, none⟩) E.length c4) rfl rfl q4 ?_)
  clear q4
  refine (decode_no _ (E.take k) _ (FE_14.out.bys.cut (Nat.le_of_lt HK.out)) (HEB.out.take k) (by rw [List.length_take]; omega) (fun j hj => by rw [← HEE.out]; exact no_cut hv.out (by rw [HEE.out]; exact HK.out) (by rw [List.length_take] at hj; omega) j)).mono ?_
  rintro e u5 ⟨s5, rfl, hs5, b5⟩
  obtain ⟨pa5, pc5, rfl, -, -⟩ := hs5
  have FM_15 := Lib.hid (FM_13.out.step b5)
  clear FM_13
  have FE_16 := Lib.hid (FE_14.out.step b5)
  clear FE_14
  have HB5 := Lib.hid (keep2 b5 HB4.out)
  replace HSZ := Lib.hid (show _ ∧ _ from ⟨HSZ.out.1, Nat.le_trans HSZ.out.2 b5.size⟩)
  replace HG := Lib.hid (show _ ∧ _ ∧ _ from ⟨HG.out.1, Nat.lt_of_lt_of_le HG.out.2.1 b5.size, HG.out.2.2⟩)
  clear HB4 b5
  rw [show ([] : List Int).length = 0 from rfl]
  obtain ⟨u6, hu6⟩ : ∃ z, z = u5.alloc (.cells #[.int .i64 0, .int .i64 0, .int .i64 0, .int .i64 0, .slice pa5 0 pc5, .int .i64 0] 24) := ⟨_, rfl⟩
  have bu6 : Below u5.heap.size u5 u6 := by rw [hu6]; exact al _ _
  have FM_17 := Lib.hid (FM_15.out.step bu6)
  clear FM_15
  have FE_18 := Lib.hid (FE_16.out.step bu6)
  clear FE_16
  have HBu6 := Lib.hid (keep2 bu6 HB5.out)
  replace HSZ := Lib.hid (show _ ∧ _ from ⟨HSZ.out.1, Nat.le_trans HSZ.out.2 bu6.size⟩)
  replace HG := Lib.hid (show _ ∧ _ ∧ _ from ⟨HG.out.1, Nat.lt_of_lt_of_le HG.out.2.1 bu6.size, HG.out.2.2⟩)
  clear HB5 bu6
  obtain ⟨v7, u7, q7, ⟨p7, c7, rfl⟩, hr7, hb7⟩ := app0 u6 (u6.alloc (.cells #[] 5)) (.slice (some ⟨g, 0, none⟩) E.length c4) E 25 (u5.heap.size + 1) (by rw [hu6]; simp) (Below.refl _ _) (FE_18.out.bys.step (al u6 (.cells #[] 5))) (by omega)
  obtain ⟨v8, u8, q8, ⟨p8, c8, rfl⟩, hr8, hb8⟩ := app1 u7 u6 u6.heap.size _ _ E more 25 hr7 (FM_17.out.step hb7) (by have := h5.out; omega) hb7 (Nat.le_refl _) hb7.size
  have HR8 := Lib.hid hr8
  clear hr8 hr7 hb7
  have FM_19 := Lib.hid (FM_17.out.step hb8)
  clear FM_17
  have FE_20 := Lib.hid (FE_18.out.step hb8)
  clear FE_18
  have HB8 := Lib.hid (keep2 hb8 HBu6.out)
  replace HSZ := Lib.hid (show _ ∧ _ from ⟨HSZ.out.1, Nat.le_trans HSZ.out.2 hb8.size⟩)
  replace HG := Lib.hid (show _ ∧ _ ∧ _ from ⟨HG.out.1, Nat.lt_of_lt_of_le HG.out.2.1 hb8.size, HG.out.2.2⟩)
  clear HBu6 hb8
  subst hu6
  go_wp2_with (first | (at_builtin; refine wpList_appI rfl (.tmp 55) (.tmp 56) 25 rfl _ _ (.slice p7 E.length c7) rfl rfl q7 ?_) | (at_builtin; refine wpList_appI rfl (.tmp 57) (.tmp 58) 25 rfl _ _ (.slice p8 (E.length + more.length) c8) rfl rfl q8 ?_))
  obtain ⟨mb, hmb⟩ : ∃ z, decide (more = []) = z := ⟨_, rfl⟩
  have HMB := Lib.hid hmb
  clear hmb q7 q8
  obtain ⟨A9, B9, C9, D9, M9, T9, e9, he9, hd9⟩ := dec_any _ (E ++ more) _ mb HR8.out (HEB.out.app hby.out) (by have := h5.out; rw [List.length_append]; omega) (fun hp => by rw [← HMB.out] at hp; have := of_decide_eq_true hp; subst this; exact ⟨_, _, _, _, _, _, hv.out, by rw [List.append_nil, HEE.out]⟩) (fun hp j _ => by rw [← HMB.out] at hp; have := of_decide_eq_false hp; rw [← HEE.out]; exact no_more hv.out this j)
  have HE9 := Lib.hid he9
  clear he9
  refine hd9.mono ?_
  rintro e u9 ⟨s9, rfl, hs9, b9⟩
  obtain ⟨pa9, pc9, rfl, -, -⟩ := hs9
  clear hd9 HR8
  have FM_21 := Lib.hid (FM_19.out.step b9)
  clear FM_19
  have FE_22 := Lib.hid (FE_20.out.step b9)
  clear FE_20
  have HB9 := Lib.hid (keep2 b9 HB8.out)
  replace HSZ := Lib.hid (show _ ∧ _ from ⟨HSZ.out.1, Nat.le_trans HSZ.out.2 b9.size⟩)
  replace HG := Lib.hid (show _ ∧ _ ∧ _ from ⟨HG.out.1, Nat.lt_of_lt_of_le HG.out.2.1 b9.size, HG.out.2.2⟩)
  clear HB8 b9
  obtain ⟨old, hold⟩ : ∃ z, E.getD k 0 = z := ⟨_, rfl⟩
  have HOLD := Lib.hid hold
  clear hold
  have x0 : (u9.alloc (.cells #[.int .i64 A9, .int .i64 B9, .int .i64 C9, .int .i64 D9, .slice pa9 M9.length pc9, .int .i64 T9] 24)).cell? ⟨g, k, none⟩ = some (.int .u8 old) := by rw [← HOLD.out]; exact (FE_22.out.step (al u9 (.cells #[.int .i64 A9, .int .i64 B9, .int .i64 C9, .int .i64 D9, .slice pa9 M9.length pc9, .int .i64 T9] 24))).bys.at HK.out
  have x1 : (u9.alloc (.cells #[.int .i64 A9, .int .i64 B9, .int .i64 C9, .int .i64 D9, .slice pa9 M9.length pc9, .int .i64 T9] 24)).frozen? ⟨g, k, none⟩ = false := (FE_22.out.step (al u9 (.cells #[.int .i64 A9, .int .i64 B9, .int .i64 C9, .int .i64 D9, .slice pa9 M9.length pc9, .int .i64 T9] 24))).frozen
  have x2 : g < u9.heap.size := HG.out.2.1
  have x3 : g < u9.heap.size + 1 := by omega
  go_wp2_with fail
  have HW := Lib.hid ((FE_22.out.bys.put (y := vl) HK.out).step (al _ (.cells #[.int .i64 A9, .int .i64 B9, .int .i64 C9, .int .i64 D9, .slice pa9 M9.length pc9, .int .i64 T9] 24)))
  have HBW0 := Lib.hid (HB9.out.setCell (p := ⟨g, k, none⟩) HG.out.2.2 (.int .u8 vl))
  have HBW := Lib.hid (HBW0.out.alloc HBW0.out.size (.cells #[.int .i64 A9, .int .i64 B9, .int .i64 C9, .int .i64 D9, .slice pa9 M9.length pc9, .int .i64 T9] 24))
  clear x0 x1 x2 x3
  obtain ⟨vb, hvb⟩ : ∃ z, decide (vl = old) = z := ⟨_, rfl⟩
  have HVB := Lib.hid hvb
  clear hvb
  obtain ⟨A2, B2, C2, D2, M2, T2, e2, he2, hd2⟩ := dec_any _ (E.set k vl) _ vb HW.out (HEB.out.set k hv0.out) (by rw [List.length_set]; omega) (fun hp => by rw [← HVB.out] at hp; have hq := of_decide_eq_true hp; refine ⟨_, _, _, _, _, _, hv.out, ?_⟩; rw [HEE.out, hq, ← HOLD.out]; exact (set_self HK.out).symm) (fun hp j _ => by rw [← HVB.out] at hp; have hq := of_decide_eq_false hp; rw [← HEE.out]; exact no_put (by rw [HEE.out]; exact HK.out) hv0.out (by rw [HEE.out, HOLD.out]; exact hq) j)
  have HE2 := Lib.hid he2
  clear he2
  refine hd2.mono ?_
  rintro e u10 ⟨s10, rfl, hs10, b10⟩
  obtain ⟨pa2, pc2, rfl, -, -⟩ := hs10
  have HB10 := Lib.hid (keep2 b10 HBW.out)
  clear hd2 b10
  have z1 := HE9.out
  have z2 : ((more.length : Int) == 0) = mb := by rw [← HMB.out, Bool.eq_iff_iff]; simp
  have z3 := HE2.out
  have z4 : (vl == old) = vb := by rw [← HVB.out, Bool.eq_iff_iff]; simp
  go_wp2
  go_ret
  exact ⟨rfl, (HB10.out.alloc HB10.out.size _)⟩
theorem damage_any (a b c d : Int) (sl : Value) (l : List Int) (t : Int) (at_ : Int) (vl : Int) (v : Value) (more : List Int) (w : World) (h : IntsAt w sl l) (ha0 : 0 ≤ at_) (ha1 : at_ ≤ 65535) (hv0 : 0 ≤ vl) (hv1 : vl ≤ 255) (h' : BysAt w v more) (hby : IsBy more) : Calls Try.prog 7 #[.agg #[.int .i64 a, .int .i64 b, .int .i64 c, .int .i64 d, sl, .int .i64 t], .int .u16 at_, .int .u8 vl, v] w fun e w' => e = .returned (.bool true) ∧ Below w.heap.size w w' := by
  by_cases h4 : l.length ≤ 32
  · cases hv : vaB a b c d l t
    · exact fd_b a b c d sl l t at_ vl v more w h ha0 ha1 hv0 hv1 h' hby h4 hv
    · by_cases h5 : more.length ≤ 100
      · exact fd_d a b c d sl l t at_ vl v more w h ha0 ha1 hv0 hv1 h' hby h4 hv h5
      · exact fd_c a b c d sl l t at_ vl v more w h ha0 ha1 hv0 hv1 h' hby h4 hv (by omega)
  · exact fd_a a b c d sl l t at_ vl v more w h ha0 ha1 hv0 hv1 h' hby (by omega)
end Go.Proofs.Ytebeaekiaikgmaa
