/- Frames: 'Open'. -/
import Derived.Test.YtebeaekiaikgmaaFi
namespace Go.Proofs.Ytebeaekiaikgmaa
open Go.RowKit

set_option maxRecDepth 100000 in
set_option maxHeartbeats 8000000 in
theorem open_no1 (key : Int) (a b c d : Int) (sl : Value) (l : List Int) (t : Int) (w : World) (h : IntsAt w sl l) (hk : tgB key = false) : Calls Try.prog 20 #[.int .i64 key, .agg #[.int .i64 a, .int .i64 b, .int .i64 c, .int .i64 d, sl, .int .i64 t]] w fun e w' => e = .returned (.int .i64 1) ∧ Below w.heap.size w w' := by
  have HL0 := Lib.hid h
  obtain ⟨sa, sc, rfl, hm, -⟩ := h
  have HC0 := Lib.hid (Cs.new w w.heap.size #[.int .i64 a, .int .i64 b, .int .i64 c, .int .i64 d, .slice sa l.length sc, .int .i64 t] 24 rfl)
  have HB0 := Lib.hid (al w (.cells #[.int .i64 a, .int .i64 b, .int .i64 c, .int .i64 d, .slice sa l.length sc, .int .i64 t] 24))
  have HL1 := Lib.hid (HL0.out.step HB0.out)
  replace hk := Lib.hid hk
  have x0 := HC0.out.c 0 rfl
  have x1 := HC0.out.c 1 rfl
  have x2 := HC0.out.c 2 rfl
  have x3 := HC0.out.c 3 rfl
  have x4 := HC0.out.c 4 rfl
  have x5 := HC0.out.c 5 rfl
  have xz := HC0.out.2.2
  go_enter Try.func20, Try.ntmps20
  go_wp2_with fail
  refine (isTag_any key _).mono ?_
  rintro e w' ⟨rfl, rfl⟩
  rw [hk.out]
  go_wp2
  go_ret
  exact ⟨rfl, HB0.out⟩
set_option maxRecDepth 100000 in
set_option maxHeartbeats 8000000 in
theorem open_no2 (key : Int) (a b c d : Int) (sl : Value) (l : List Int) (t : Int) (w : World) (h : IntsAt w sl l) (hk : tgB key = true) (hv : vaB a b c d l t = false) : Calls Try.prog 20 #[.int .i64 key, .agg #[.int .i64 a, .int .i64 b, .int .i64 c, .int .i64 d, sl, .int .i64 t]] w fun e w' => e = .returned (.int .i64 1) ∧ Below w.heap.size w w' := by
  have HL0 := Lib.hid h
  obtain ⟨sa, sc, rfl, hm, -⟩ := h
  have HC0 := Lib.hid (Cs.new w w.heap.size #[.int .i64 a, .int .i64 b, .int .i64 c, .int .i64 d, .slice sa l.length sc, .int .i64 t] 24 rfl)
  have HB0 := Lib.hid (al w (.cells #[.int .i64 a, .int .i64 b, .int .i64 c, .int .i64 d, .slice sa l.length sc, .int .i64 t] 24))
  have HL1 := Lib.hid (HL0.out.step HB0.out)
  replace hk := Lib.hid hk
  replace hv := Lib.hid hv
  have x0 := HC0.out.c 0 rfl
  have x1 := HC0.out.c 1 rfl
  have x2 := HC0.out.c 2 rfl
  have x3 := HC0.out.c 3 rfl
  have x4 := HC0.out.c 4 rfl
  have x5 := HC0.out.c 5 rfl
  have xz := HC0.out.2.2
  go_enter Try.func20, Try.ntmps20
  go_wp2_with fail
  refine (isTag_any key _).mono ?_
  rintro e w' ⟨rfl, rfl⟩
  rw [hk.out]
  go_wp2_with fail
  refine (valid_any a b c d _ l t _ HL1.out).mono ?_
  rintro e w2 ⟨rfl, b2⟩
  rw [hv.out]
  have HC2 := Lib.hid (HC0.out.step b2)
  have HB2 := Lib.hid (keep2 b2 HB0.out)
  have HL2 := Lib.hid (HL1.out.step b2)
  clear b2 x0 x1 x2 x3 x4 x5 xz
  go_wp2
  go_ret
  exact ⟨rfl, HB2.out⟩
set_option maxRecDepth 100000 in
set_option maxHeartbeats 8000000 in
theorem open_yes (key : Int) (a b c d : Int) (sl : Value) (l : List Int) (t : Int) (w : World) (h : IntsAt w sl l) (hk : tgB key = true) (hv : vaB a b c d l t = true) (hq : t = tgF key a b c d l) : Calls Try.prog 20 #[.int .i64 key, .agg #[.int .i64 a, .int .i64 b, .int .i64 c, .int .i64 d, sl, .int .i64 t]] w fun e w' => e = .returned (.int .i64 0) ∧ Below w.heap.size w w' := by
  have HL0 := Lib.hid h
  obtain ⟨sa, sc, rfl, hm, -⟩ := h
  have HC0 := Lib.hid (Cs.new w w.heap.size #[.int .i64 a, .int .i64 b, .int .i64 c, .int .i64 d, .slice sa l.length sc, .int .i64 t] 24 rfl)
  have HB0 := Lib.hid (al w (.cells #[.int .i64 a, .int .i64 b, .int .i64 c, .int .i64 d, .slice sa l.length sc, .int .i64 t] 24))
  have HL1 := Lib.hid (HL0.out.step HB0.out)
  replace hk := Lib.hid hk
  replace hv := Lib.hid hv
  replace hq := Lib.hid hq
  have x0 := HC0.out.c 0 rfl
  have x1 := HC0.out.c 1 rfl
  have x2 := HC0.out.c 2 rfl
  have x3 := HC0.out.c 3 rfl
  have x4 := HC0.out.c 4 rfl
  have x5 := HC0.out.c 5 rfl
  have xz := HC0.out.2.2
  go_enter Try.func20, Try.ntmps20
  go_wp2_with fail
  refine (isTag_any key _).mono ?_
  rintro e w' ⟨rfl, rfl⟩
  rw [hk.out]
  go_wp2_with fail
  refine (valid_any a b c d _ l t _ HL1.out).mono ?_
  rintro e w2 ⟨rfl, b2⟩
  rw [hv.out]
  have HC2 := Lib.hid (HC0.out.step b2)
  have HB2 := Lib.hid (keep2 b2 HB0.out)
  have HL2 := Lib.hid (HL1.out.step b2)
  clear b2 x0 x1 x2 x3 x4 x5 xz
  have h32 := Lib.hid (va_parts hv.out).2.2.2.2.2.1
  obtain ⟨T, hT⟩ : ∃ z, tgF key a b c d l = z := ⟨_, rfl⟩
  rw [hT] at hq
  have HT := Lib.hid hT
  clear hT
  have x0 := HC2.out.c 0 rfl
  have x1 := HC2.out.c 1 rfl
  have x2 := HC2.out.c 2 rfl
  have x3 := HC2.out.c 3 rfl
  have x4 := HC2.out.c 4 rfl
  have x5 := HC2.out.c 5 rfl
  have xz := HC2.out.2.2
  have e1 : (t == T) = true := by simpa using hq.out
  have e2 : (t != T) = false := by simpa using hq.out
  have e3 : (t = T) = True := by simpa using hq.out
  go_wp2_with fail
  go_upto_region 3 with fail
  go_region_law (go_simp; go_at_call 36; refine (tagF_any key a b c d _ l t _ (HL2.out.step (below_drew _ _)) (by have := h32.out; omega)).mono ?_; rintro e w3 ⟨rfl, b3⟩; rw [HT.out]; have HB3 := Lib.hid (keep2 b3 (keep2 (below_drew _ _) HB2.out)); have HC3 := Lib.hid (HC2.out.step (keep2 b3 (below_drew _ _))); have y0 := HC3.out.c 0 rfl; have y1 := HC3.out.c 1 rfl; have y2 := HC3.out.c 2 rfl; have y3 := HC3.out.c 3 rfl; have y4 := HC3.out.c 4 rfl; have y5 := HC3.out.c 5 rfl; have yz := HC3.out.2.2; clear b3)
  all_goals go_wp2
  all_goals go_ret
  all_goals exact ⟨rfl, HB3.out⟩
set_option maxRecDepth 100000 in
set_option maxHeartbeats 8000000 in
theorem open_tag (key : Int) (a b c d : Int) (sl : Value) (l : List Int) (t : Int) (w : World) (h : IntsAt w sl l) (hk : tgB key = true) (hv : vaB a b c d l t = true) (hq : t ≠ tgF key a b c d l) : Calls Try.prog 20 #[.int .i64 key, .agg #[.int .i64 a, .int .i64 b, .int .i64 c, .int .i64 d, sl, .int .i64 t]] w fun e w' => e = .returned (.int .i64 15) ∧ Below w.heap.size w w' := by
  have HL0 := Lib.hid h
  obtain ⟨sa, sc, rfl, hm, -⟩ := h
  have HC0 := Lib.hid (Cs.new w w.heap.size #[.int .i64 a, .int .i64 b, .int .i64 c, .int .i64 d, .slice sa l.length sc, .int .i64 t] 24 rfl)
  have HB0 := Lib.hid (al w (.cells #[.int .i64 a, .int .i64 b, .int .i64 c, .int .i64 d, .slice sa l.length sc, .int .i64 t] 24))
  have HL1 := Lib.hid (HL0.out.step HB0.out)
  replace hk := Lib.hid hk
  replace hv := Lib.hid hv
  replace hq := Lib.hid hq
  have x0 := HC0.out.c 0 rfl
  have x1 := HC0.out.c 1 rfl
  have x2 := HC0.out.c 2 rfl
  have x3 := HC0.out.c 3 rfl
  have x4 := HC0.out.c 4 rfl
  have x5 := HC0.out.c 5 rfl
  have xz := HC0.out.2.2
  go_enter Try.func20, Try.ntmps20
  go_wp2_with fail
  refine (isTag_any key _).mono ?_
  rintro e w' ⟨rfl, rfl⟩
  rw [hk.out]
  go_wp2_with fail
  refine (valid_any a b c d _ l t _ HL1.out).mono ?_
  rintro e w2 ⟨rfl, b2⟩
  rw [hv.out]
  have HC2 := Lib.hid (HC0.out.step b2)
  have HB2 := Lib.hid (keep2 b2 HB0.out)
  have HL2 := Lib.hid (HL1.out.step b2)
  clear b2 x0 x1 x2 x3 x4 x5 xz
  have h32 := Lib.hid (va_parts hv.out).2.2.2.2.2.1
  obtain ⟨T, hT⟩ : ∃ z, tgF key a b c d l = z := ⟨_, rfl⟩
  rw [hT] at hq
  have HT := Lib.hid hT
  clear hT
  have x0 := HC2.out.c 0 rfl
  have x1 := HC2.out.c 1 rfl
  have x2 := HC2.out.c 2 rfl
  have x3 := HC2.out.c 3 rfl
  have x4 := HC2.out.c 4 rfl
  have x5 := HC2.out.c 5 rfl
  have xz := HC2.out.2.2
  have e1 : (t == T) = false := by simpa using hq.out
  have e2 : (t != T) = true := by simpa using hq.out
  have e3 : (t = T) = False := by simpa using hq.out
  go_wp2_with fail
  go_upto_region 3 with fail
  go_region_law (go_simp; go_at_call 36; refine (tagF_any key a b c d _ l t _ (HL2.out.step (below_drew _ _)) (by have := h32.out; omega)).mono ?_; rintro e w3 ⟨rfl, b3⟩; rw [HT.out]; have HB3 := Lib.hid (keep2 b3 (keep2 (below_drew _ _) HB2.out)); have HC3 := Lib.hid (HC2.out.step (keep2 b3 (below_drew _ _))); have y0 := HC3.out.c 0 rfl; have y1 := HC3.out.c 1 rfl; have y2 := HC3.out.c 2 rfl; have y3 := HC3.out.c 3 rfl; have y4 := HC3.out.c 4 rfl; have y5 := HC3.out.c 5 rfl; have yz := HC3.out.2.2; clear b3)
  all_goals go_wp2
  all_goals go_ret
  all_goals exact ⟨rfl, HB3.out⟩
end Go.Proofs.Ytebeaekiaikgmaa
