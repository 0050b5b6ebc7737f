/- The walk of FrameMatchesReference. -/
import Derived.Test.YtebeaekiaikgmaaPj
import Derived.Test.YtebeaekiaikgmaaHb
import Derived.Test.YtebeaekiaikgmaaIv
import Derived.Test.YtebeaekiaikgmaaHa
import Derived.BigQuiet
namespace Go.Proofs.Ytebeaekiaikgmaa
open Go.RowKit

set_option maxRecDepth 100000 in
set_option maxHeartbeats 8000000 in
theorem match_any (key a b c d : Int) (sl : Value) (l : List Int) (t : Int) (vb : Value) (lb : List Int) (tw : Int) (sw : Value) (Lw : List Bool) (seq : Int) (w : World) (h : IntsAt w sl l) (hb : BysAt w vb lb) (hby : IsBy lb) (hw : BosAt w sw Lw) (hcap : ∀ a n c, sw = .slice a n c → n ≤ c) :
    Calls Try.prog 3 #[.int .i64 key, .agg #[.int .i64 a, .int .i64 b, .int .i64 c, .int .i64 d, sl, .int .i64 t], vb, .agg #[.int .i64 tw, sw], .int .i64 seq] w fun e w' => e = .returned (.bool true) ∧ Below w.heap.size w w' := by
  have HL := Lib.hid h
  have HY := Lib.hid hb
  have HW := Lib.hid hw
  have HBY := Lib.hid hby
  obtain ⟨fa, fc, rfl, hm1, -⟩ := h
  obtain ⟨ba, bc, rfl, -, hm2, -⟩ := hb
  obtain ⟨wa, wc, rfl, hm3, -⟩ := hw
  have HCP := Lib.hid (hcap _ _ _ rfl)
  unfold maxLen at hm1 hm2 hm3
  clear hcap hby
  have B0 := al2 (w := w) (o1 := .cells #[.int .i64 a, .int .i64 b, .int .i64 c, .int .i64 d, .slice fa l.length fc, .int .i64 t] 24) (o2 := .cells #[.int .i64 tw, .slice wa Lw.length wc] 28)
  have HF := Lib.hid ((Cs.new w w.heap.size #[.int .i64 a, .int .i64 b, .int .i64 c, .int .i64 d, .slice fa l.length fc, .int .i64 t] 24 rfl).alloc (.cells #[.int .i64 tw, .slice wa Lw.length wc] 28))
  have HN := Lib.hid (Cs.new (w.alloc (.cells #[.int .i64 a, .int .i64 b, .int .i64 c, .int .i64 d, .slice fa l.length fc, .int .i64 t] 24)) (w.heap.size + 1) #[.int .i64 tw, .slice wa Lw.length wc] 28 (by simp))
  replace HL := Lib.hid (HL.out.step B0)
  replace HY := Lib.hid (HY.out.step B0)
  replace HW := Lib.hid (HW.out.step B0)
  have HB := Lib.hid B0
  clear B0
  go_enter Try.func3, Try.ntmps3
  go_wp2_with fail
  refine (head_any _).mono ?_
  rintro e w1 ⟨rfl, b1⟩
  replace HF := Lib.hid (HF.out.step b1)
  replace HN := Lib.hid (HN.out.step b1)
  replace HL := Lib.hid (HL.out.step b1)
  replace HY := Lib.hid (HY.out.step b1)
  replace HW := Lib.hid (HW.out.step b1)
  replace HB := Lib.hid (keep2 b1 HB.out)
  clear b1
  have f0 := HF.out.c 0 rfl
  have f1 := HF.out.c 1 rfl
  have f2 := HF.out.c 2 rfl
  have f3 := HF.out.c 3 rfl
  have f4 := HF.out.c 4 rfl
  have f5 := HF.out.c 5 rfl
  have fz := HF.out.2.2
  have n0 := HN.out.c 0 rfl
  have n1 := HN.out.c 1 rfl
  have nz := HN.out.2.2
  by_cases q1 : l.length ≤ 40
  rotate_left
  · have g1 : decide ((l.length : Int) > 40) = true := by simp; omega
    have g2 : decide ((40 : Int) < l.length) = true := by simp; omega
    go_wp2
    go_ret
    exact ⟨by simp, HB.out⟩
  have g1 : decide ((l.length : Int) > 40) = false := by simp; omega
  have g2 : decide ((40 : Int) < l.length) = false := by simp; omega
  by_cases q2 : lb.length ≤ 400
  rotate_left
  · have g3 : decide ((lb.length : Int) > 400) = true := by simp; omega
    have g4 : decide ((400 : Int) < lb.length) = true := by simp; omega
    go_wp2
    go_ret
    exact ⟨by simp, HB.out⟩
  have g3 : decide ((lb.length : Int) > 400) = false := by simp; omega
  have g4 : decide ((400 : Int) < lb.length) = false := by simp; omega
  by_cases q3 : Lw.length ≤ 40
  rotate_left
  · have g5 : decide ((Lw.length : Int) > 40) = true := by simp; omega
    have g6 : decide ((40 : Int) < Lw.length) = true := by simp; omega
    go_wp2
    go_ret
    exact ⟨by simp, HB.out⟩
  have g5 : decide ((Lw.length : Int) > 40) = false := by simp; omega
  have g6 : decide ((40 : Int) < Lw.length) = false := by simp; omega
  obtain ⟨xA, xB, xC, xD, xe, xT, xL, hs1, hs2⟩ := seal_both key a b c d (.slice fa l.length fc) l t
  obtain ⟨yA, yB, yC, yD, ye, yT, yL, hd1, hd2⟩ := decode_both (.slice ba lb.length bc) lb HBY.out (by omega)
  obtain ⟨pT, pe, pL, ha1, ha2⟩ := accept_both tw wa Lw.length wc Lw seq rfl HCP.out (by omega)
  obtain ⟨oe, ho1, ho2⟩ := open_both key a b c d (.slice fa l.length fc) l t
  replace hs1 := Lib.hid hs1
  replace hs2 := Lib.hid hs2
  replace hd1 := Lib.hid hd1
  replace hd2 := Lib.hid hd2
  replace ha1 := Lib.hid ha1
  replace ha2 := Lib.hid ha2
  replace ho1 := Lib.hid ho1
  replace ho2 := Lib.hid ho2
  go_wp2_with fail
  refine (hs1.out _ HL.out).mono ?_
  rintro e v2 ⟨u, rfl, hu, b⟩
  obtain ⟨ra, rc, rfl, -⟩ := id hu
  replace HF := Lib.hid (HF.out.step b)
  replace HN := Lib.hid (HN.out.step b)
  replace HL := Lib.hid (HL.out.step b)
  replace HY := Lib.hid (HY.out.step b)
  replace HW := Lib.hid (HW.out.step b)
  replace HB := Lib.hid (keep2 b HB.out)
  have HrI := Lib.hid hu
  clear hu b
  clear f0 f1 f2 f3 f4 f5 fz n0 n1 nz
  have b := al v2 (.cells #[.int .i64 xA, .int .i64 xB, .int .i64 xC, .int .i64 xD, .slice ra xL.length rc, .int .i64 xT] 24)
  have HrC := Lib.hid (Cs.new v2 v2.heap.size #[.int .i64 xA, .int .i64 xB, .int .i64 xC, .int .i64 xD, .slice ra xL.length rc, .int .i64 xT] 24 rfl)
  replace HF := Lib.hid (HF.out.step b)
  replace HN := Lib.hid (HN.out.step b)
  replace HL := Lib.hid (HL.out.step b)
  replace HY := Lib.hid (HY.out.step b)
  replace HW := Lib.hid (HW.out.step b)
  replace HB := Lib.hid (keep2 b HB.out)
  replace HrI := Lib.hid (HrI.out.step b)
  clear b
  have f0 := HF.out.c 0 rfl
  have f1 := HF.out.c 1 rfl
  have f2 := HF.out.c 2 rfl
  have f3 := HF.out.c 3 rfl
  have f4 := HF.out.c 4 rfl
  have f5 := HF.out.c 5 rfl
  have fz := HF.out.2.2
  go_wp2_with fail
  clear f0 f1 f2 f3 f4 f5 fz
  obtain ⟨rP, hrP⟩ : ∃ z, v2.heap.size = z := ⟨_, rfl⟩
  obtain ⟨v2b, hv2b⟩ : ∃ z, v2.alloc (.cells #[.int .i64 xA, .int .i64 xB, .int .i64 xC, .int .i64 xD, .slice ra xL.length rc, .int .i64 xT] 24) = z := ⟨_, rfl⟩
  rw [hv2b] at HF HN HL HY HW HrC HrI HB ⊢
  rw [hrP] at HrC ⊢
  clear hrP hv2b
  refine (hs2.out _ HL.out).mono ?_
  rintro e v3 ⟨u, rfl, hu, b⟩
  obtain ⟨sa, sc, rfl, -⟩ := id hu
  replace HF := Lib.hid (HF.out.step b)
  replace HN := Lib.hid (HN.out.step b)
  replace HL := Lib.hid (HL.out.step b)
  replace HY := Lib.hid (HY.out.step b)
  replace HW := Lib.hid (HW.out.step b)
  replace HrC := Lib.hid (HrC.out.step b)
  replace HrI := Lib.hid (HrI.out.step b)
  replace HB := Lib.hid (keep2 b HB.out)
  have HsI := Lib.hid hu
  clear hu b
  have b := al v3 (.cells #[.int .i64 xA, .int .i64 xB, .int .i64 xC, .int .i64 xD, .slice sa xL.length sc, .int .i64 xT] 24)
  have HsC := Lib.hid (Cs.new v3 v3.heap.size #[.int .i64 xA, .int .i64 xB, .int .i64 xC, .int .i64 xD, .slice sa xL.length sc, .int .i64 xT] 24 rfl)
  replace HF := Lib.hid (HF.out.step b)
  replace HN := Lib.hid (HN.out.step b)
  replace HL := Lib.hid (HL.out.step b)
  replace HY := Lib.hid (HY.out.step b)
  replace HW := Lib.hid (HW.out.step b)
  replace HrC := Lib.hid (HrC.out.step b)
  replace HrI := Lib.hid (HrI.out.step b)
  replace HB := Lib.hid (keep2 b HB.out)
  replace HsI := Lib.hid (HsI.out.step b)
  clear b
  go_wp2_with fail
  obtain ⟨sP, hsP⟩ : ∃ z, v3.heap.size = z := ⟨_, rfl⟩
  obtain ⟨v3b, hv3b⟩ : ∃ z, v3.alloc (.cells #[.int .i64 xA, .int .i64 xB, .int .i64 xC, .int .i64 xD, .slice sa xL.length sc, .int .i64 xT] 24) = z := ⟨_, rfl⟩
  rw [hv3b] at HF HN HL HY HW HrC HrI HsC HsI HB ⊢
  rw [hsP] at HsC ⊢
  clear hsP hv3b
  refine (hd1.out _ HY.out).mono ?_
  rintro e v4 ⟨u, rfl, hu, b⟩
  obtain ⟨ya, yc, rfl, -⟩ := id hu
  replace HF := Lib.hid (HF.out.step b)
  replace HN := Lib.hid (HN.out.step b)
  replace HL := Lib.hid (HL.out.step b)
  replace HY := Lib.hid (HY.out.step b)
  replace HW := Lib.hid (HW.out.step b)
  replace HrC := Lib.hid (HrC.out.step b)
  replace HrI := Lib.hid (HrI.out.step b)
  replace HsC := Lib.hid (HsC.out.step b)
  replace HsI := Lib.hid (HsI.out.step b)
  replace HB := Lib.hid (keep2 b HB.out)
  have HyI := Lib.hid hu
  clear hu b
  have b := al v4 (.cells #[.int .i64 yA, .int .i64 yB, .int .i64 yC, .int .i64 yD, .slice ya yL.length yc, .int .i64 yT] 24)
  have HyC := Lib.hid (Cs.new v4 v4.heap.size #[.int .i64 yA, .int .i64 yB, .int .i64 yC, .int .i64 yD, .slice ya yL.length yc, .int .i64 yT] 24 rfl)
  replace HF := Lib.hid (HF.out.step b)
  replace HN := Lib.hid (HN.out.step b)
  replace HL := Lib.hid (HL.out.step b)
  replace HY := Lib.hid (HY.out.step b)
  replace HW := Lib.hid (HW.out.step b)
  replace HrC := Lib.hid (HrC.out.step b)
  replace HrI := Lib.hid (HrI.out.step b)
  replace HsC := Lib.hid (HsC.out.step b)
  replace HsI := Lib.hid (HsI.out.step b)
  replace HB := Lib.hid (keep2 b HB.out)
  replace HyI := Lib.hid (HyI.out.step b)
  clear b
  go_wp2_with fail
  obtain ⟨yP, hyP⟩ : ∃ z, v4.heap.size = z := ⟨_, rfl⟩
  obtain ⟨v4b, hv4b⟩ : ∃ z, v4.alloc (.cells #[.int .i64 yA, .int .i64 yB, .int .i64 yC, .int .i64 yD, .slice ya yL.length yc, .int .i64 yT] 24) = z := ⟨_, rfl⟩
  rw [hv4b] at HF HN HL HY HW HrC HrI HsC HsI HyC HyI HB ⊢
  rw [hyP] at HyC ⊢
  clear hyP hv4b
  refine (hd2.out _ HY.out).mono ?_
  rintro e v5 ⟨u, rfl, hu, b⟩
  obtain ⟨za, zc, rfl, -⟩ := id hu
  replace HF := Lib.hid (HF.out.step b)
  replace HN := Lib.hid (HN.out.step b)
  replace HL := Lib.hid (HL.out.step b)
  replace HY := Lib.hid (HY.out.step b)
  replace HW := Lib.hid (HW.out.step b)
  replace HrC := Lib.hid (HrC.out.step b)
  replace HrI := Lib.hid (HrI.out.step b)
  replace HsC := Lib.hid (HsC.out.step b)
  replace HsI := Lib.hid (HsI.out.step b)
  replace HyC := Lib.hid (HyC.out.step b)
  replace HyI := Lib.hid (HyI.out.step b)
  replace HB := Lib.hid (keep2 b HB.out)
  have HzI := Lib.hid hu
  clear hu b
  have b := al v5 (.cells #[.int .i64 yA, .int .i64 yB, .int .i64 yC, .int .i64 yD, .slice za yL.length zc, .int .i64 yT] 24)
  have HzC := Lib.hid (Cs.new v5 v5.heap.size #[.int .i64 yA, .int .i64 yB, .int .i64 yC, .int .i64 yD, .slice za yL.length zc, .int .i64 yT] 24 rfl)
  replace HF := Lib.hid (HF.out.step b)
  replace HN := Lib.hid (HN.out.step b)
  replace HL := Lib.hid (HL.out.step b)
  replace HY := Lib.hid (HY.out.step b)
  replace HW := Lib.hid (HW.out.step b)
  replace HrC := Lib.hid (HrC.out.step b)
  replace HrI := Lib.hid (HrI.out.step b)
  replace HsC := Lib.hid (HsC.out.step b)
  replace HsI := Lib.hid (HsI.out.step b)
  replace HyC := Lib.hid (HyC.out.step b)
  replace HyI := Lib.hid (HyI.out.step b)
  replace HB := Lib.hid (keep2 b HB.out)
  replace HzI := Lib.hid (HzI.out.step b)
  clear b
  have n0 := HN.out.c 0 rfl
  have n1 := HN.out.c 1 rfl
  have nz := HN.out.2.2
  go_wp2_with fail
  clear n0 n1 nz
  obtain ⟨zP, hzP⟩ : ∃ z, v5.heap.size = z := ⟨_, rfl⟩
  obtain ⟨v5b, hv5b⟩ : ∃ z, v5.alloc (.cells #[.int .i64 yA, .int .i64 yB, .int .i64 yC, .int .i64 yD, .slice za yL.length zc, .int .i64 yT] 24) = z := ⟨_, rfl⟩
  rw [hv5b] at HF HN HL HY HW HrC HrI HsC HsI HyC HyI HzC HzI HB ⊢
  rw [hzP] at HzC ⊢
  clear hzP hv5b
  refine (ha1.out _ HW.out).mono ?_
  rintro e v6 ⟨pa, pc, rfl, -, hu, b⟩
  replace HF := Lib.hid (HF.out.step b)
  replace HN := Lib.hid (HN.out.step b)
  replace HL := Lib.hid (HL.out.step b)
  replace HY := Lib.hid (HY.out.step b)
  replace HW := Lib.hid (HW.out.step b)
  replace HrC := Lib.hid (HrC.out.step b)
  replace HrI := Lib.hid (HrI.out.step b)
  replace HsC := Lib.hid (HsC.out.step b)
  replace HsI := Lib.hid (HsI.out.step b)
  replace HyC := Lib.hid (HyC.out.step b)
  replace HyI := Lib.hid (HyI.out.step b)
  replace HzC := Lib.hid (HzC.out.step b)
  replace HzI := Lib.hid (HzI.out.step b)
  replace HB := Lib.hid (keep2 b HB.out)
  have HpI := Lib.hid hu
  clear hu b
  have b := al v6 (.cells #[.int .i64 pT, .slice pa pL.length pc] 28)
  have HpC := Lib.hid (Cs.new v6 v6.heap.size #[.int .i64 pT, .slice pa pL.length pc] 28 rfl)
  replace HF := Lib.hid (HF.out.step b)
  replace HN := Lib.hid (HN.out.step b)
  replace HL := Lib.hid (HL.out.step b)
  replace HY := Lib.hid (HY.out.step b)
  replace HW := Lib.hid (HW.out.step b)
  replace HrC := Lib.hid (HrC.out.step b)
  replace HrI := Lib.hid (HrI.out.step b)
  replace HsC := Lib.hid (HsC.out.step b)
  replace HsI := Lib.hid (HsI.out.step b)
  replace HyC := Lib.hid (HyC.out.step b)
  replace HyI := Lib.hid (HyI.out.step b)
  replace HzC := Lib.hid (HzC.out.step b)
  replace HzI := Lib.hid (HzI.out.step b)
  replace HB := Lib.hid (keep2 b HB.out)
  replace HpI := Lib.hid (HpI.out.step b)
  clear b
  have n0 := HN.out.c 0 rfl
  have n1 := HN.out.c 1 rfl
  have nz := HN.out.2.2
  go_wp2_with fail
  clear n0 n1 nz
  obtain ⟨pP, hpP⟩ : ∃ z, v6.heap.size = z := ⟨_, rfl⟩
  obtain ⟨v6b, hv6b⟩ : ∃ z, v6.alloc (.cells #[.int .i64 pT, .slice pa pL.length pc] 28) = z := ⟨_, rfl⟩
  rw [hv6b] at HF HN HL HY HW HrC HrI HsC HsI HyC HyI HzC HzI HpC HpI HB ⊢
  rw [hpP] at HpC ⊢
  clear hpP hv6b
  refine (ha2.out _ HW.out).mono ?_
  rintro e v7 ⟨qa, qc, rfl, -, hu, b⟩
  replace HF := Lib.hid (HF.out.step b)
  replace HN := Lib.hid (HN.out.step b)
  replace HL := Lib.hid (HL.out.step b)
  replace HY := Lib.hid (HY.out.step b)
  replace HW := Lib.hid (HW.out.step b)
  replace HrC := Lib.hid (HrC.out.step b)
  replace HrI := Lib.hid (HrI.out.step b)
  replace HsC := Lib.hid (HsC.out.step b)
  replace HsI := Lib.hid (HsI.out.step b)
  replace HyC := Lib.hid (HyC.out.step b)
  replace HyI := Lib.hid (HyI.out.step b)
  replace HzC := Lib.hid (HzC.out.step b)
  replace HzI := Lib.hid (HzI.out.step b)
  replace HpC := Lib.hid (HpC.out.step b)
  replace HpI := Lib.hid (HpI.out.step b)
  replace HB := Lib.hid (keep2 b HB.out)
  have HqI := Lib.hid hu
  clear hu b
  have b := al v7 (.cells #[.int .i64 pT, .slice qa pL.length qc] 28)
  have HqC := Lib.hid (Cs.new v7 v7.heap.size #[.int .i64 pT, .slice qa pL.length qc] 28 rfl)
  replace HF := Lib.hid (HF.out.step b)
  replace HN := Lib.hid (HN.out.step b)
  replace HL := Lib.hid (HL.out.step b)
  replace HY := Lib.hid (HY.out.step b)
  replace HW := Lib.hid (HW.out.step b)
  replace HrC := Lib.hid (HrC.out.step b)
  replace HrI := Lib.hid (HrI.out.step b)
  replace HsC := Lib.hid (HsC.out.step b)
  replace HsI := Lib.hid (HsI.out.step b)
  replace HyC := Lib.hid (HyC.out.step b)
  replace HyI := Lib.hid (HyI.out.step b)
  replace HzC := Lib.hid (HzC.out.step b)
  replace HzI := Lib.hid (HzI.out.step b)
  replace HpC := Lib.hid (HpC.out.step b)
  replace HpI := Lib.hid (HpI.out.step b)
  replace HB := Lib.hid (keep2 b HB.out)
  replace HqI := Lib.hid (HqI.out.step b)
  clear b
  go_wp2_with fail
  go_upto_region 10 with fail
  obtain ⟨qP, hqP⟩ : ∃ z, v7.heap.size = z := ⟨_, rfl⟩
  obtain ⟨v7b, hv7b⟩ : ∃ z, v7.alloc (.cells #[.int .i64 pT, .slice qa pL.length qc] 28) = z := ⟨_, rfl⟩
  rw [hv7b] at HF HN HL HY HW HrC HrI HsC HsI HyC HyI HzC HzI HpC HpI HqC HqI HB ⊢
  rw [hqP] at HqC ⊢
  clear hqP hv7b
  have HEB := Lib.hid (encO_by a b c d l t)
  obtain ⟨el, hel⟩ : ∃ z, encO a b c d l t = z := ⟨_, rfl⟩
  have HEN := Lib.hid hel
  obtain ⟨ne, hne⟩ : ∃ z, el.length = z := ⟨_, rfl⟩
  have HNE := Lib.hid hne
  obtain ⟨ss, hss⟩ : ∃ z, strOfNums el = z := ⟨_, rfl⟩
  have HSS := Lib.hid hss
  obtain ⟨va, hva⟩ : ∃ z, vaB a b c d l t = z := ⟨_, rfl⟩
  have HVA := Lib.hid hva
  have HSM := Lib.hid (show sameB xA xB xC xD xL xT xA xB xC xD xL xT = true by simp [sameB])
  clear hel hne hss hva
  obtain ⟨lit, hlit⟩ : ∃ lit : (Nat → Value) → Act, lit = fun vs => { tmps := List.toArray (Value.int IntKind.i64 key :: Value.agg #[Value.int IntKind.i64 a, Value.int IntKind.i64 b, Value.int IntKind.i64 c, Value.int IntKind.i64 d, Value.slice fa l.length fc, Value.int IntKind.i64 t] :: Value.slice ba lb.length bc :: Value.agg #[Value.int IntKind.i64 tw, Value.slice wa Lw.length wc] :: Value.int IntKind.i64 seq :: undef :: Value.pointer (some { block := w.heap.size, off := 0 }) :: undef :: Value.pointer (some { block := w.heap.size + 1, off := 0 }) :: undef :: Value.bool false :: Value.bool true :: Value.pointer (some { block := rP, off := 0 }) :: Value.int IntKind.i64 xe :: Value.pointer (some { block := sP, off := 0 }) :: Value.int IntKind.i64 xe :: Value.pointer (some { block := yP, off := 0 }) :: Value.int IntKind.i64 ye :: Value.pointer (some { block := zP, off := 0 }) :: Value.int IntKind.i64 ye :: Value.pointer (some { block := pP, off := 0 }) :: Value.int IntKind.i64 pe :: Value.pointer (some { block := qP, off := 0 }) :: Value.int IntKind.i64 pe :: vs 33 :: Value.bool true :: Value.pointer (some { block := w.heap.size, off := 4 }) :: Value.slice fa l.length fc :: Value.int IntKind.i64 (l.length : Int) :: Value.bool false :: Value.bool false :: Value.slice ba lb.length bc :: Value.int IntKind.i64 (lb.length : Int) :: Value.bool false :: Value.bool false :: Value.bool false :: Value.pointer (some { block := w.heap.size + 1, off := 1 }) :: Value.slice wa Lw.length wc :: Value.int IntKind.i64 (Lw.length : Int) :: Value.bool false :: Value.bool false :: undef :: Value.tuple #[Value.agg #[Value.int IntKind.i64 xA, Value.int IntKind.i64 xB, Value.int IntKind.i64 xC, Value.int IntKind.i64 xD, Value.slice ra xL.length rc, Value.int IntKind.i64 xT], Value.int IntKind.i64 xe] :: Value.int IntKind.i64 key :: Value.agg #[Value.int IntKind.i64 a, Value.int IntKind.i64 b, Value.int IntKind.i64 c, Value.int IntKind.i64 d, Value.slice fa l.length fc, Value.int IntKind.i64 t] :: Value.tuple #[Value.agg #[Value.int IntKind.i64 xA, Value.int IntKind.i64 xB, Value.int IntKind.i64 xC, Value.int IntKind.i64 xD, Value.slice ra xL.length rc, Value.int IntKind.i64 xT], Value.int IntKind.i64 xe] :: Value.agg #[Value.int IntKind.i64 xA, Value.int IntKind.i64 xB, Value.int IntKind.i64 xC, Value.int IntKind.i64 xD, Value.slice ra xL.length rc, Value.int IntKind.i64 xT] :: Value.int IntKind.i64 xe :: Value.tuple #[Value.agg #[Value.int IntKind.i64 xA, Value.int IntKind.i64 xB, Value.int IntKind.i64 xC, Value.int IntKind.i64 xD, Value.slice sa xL.length sc, Value.int IntKind.i64 xT], Value.int IntKind.i64 xe] :: Value.int IntKind.i64 key :: Value.agg #[Value.int IntKind.i64 a, Value.int IntKind.i64 b, Value.int IntKind.i64 c, Value.int IntKind.i64 d, Value.slice fa l.length fc, Value.int IntKind.i64 t] :: Value.tuple #[Value.agg #[Value.int IntKind.i64 xA, Value.int IntKind.i64 xB, Value.int IntKind.i64 xC, Value.int IntKind.i64 xD, Value.slice sa xL.length sc, Value.int IntKind.i64 xT], Value.int IntKind.i64 xe] :: Value.agg #[Value.int IntKind.i64 xA, Value.int IntKind.i64 xB, Value.int IntKind.i64 xC, Value.int IntKind.i64 xD, Value.slice sa xL.length sc, Value.int IntKind.i64 xT] :: Value.int IntKind.i64 xe :: Value.tuple #[Value.agg #[Value.int IntKind.i64 yA, Value.int IntKind.i64 yB, Value.int IntKind.i64 yC, Value.int IntKind.i64 yD, Value.slice ya yL.length yc, Value.int IntKind.i64 yT], Value.int IntKind.i64 ye] :: Value.slice ba lb.length bc :: Value.tuple #[Value.agg #[Value.int IntKind.i64 yA, Value.int IntKind.i64 yB, Value.int IntKind.i64 yC, Value.int IntKind.i64 yD, Value.slice ya yL.length yc, Value.int IntKind.i64 yT], Value.int IntKind.i64 ye] :: Value.agg #[Value.int IntKind.i64 yA, Value.int IntKind.i64 yB, Value.int IntKind.i64 yC, Value.int IntKind.i64 yD, Value.slice ya yL.length yc, Value.int IntKind.i64 yT] :: Value.int IntKind.i64 ye :: Value.tuple #[Value.agg #[Value.int IntKind.i64 yA, Value.int IntKind.i64 yB, Value.int IntKind.i64 yC, Value.int IntKind.i64 yD, Value.slice za yL.length zc, Value.int IntKind.i64 yT], Value.int IntKind.i64 ye] :: Value.slice ba lb.length bc :: Value.tuple #[Value.agg #[Value.int IntKind.i64 yA, Value.int IntKind.i64 yB, Value.int IntKind.i64 yC, Value.int IntKind.i64 yD, Value.slice za yL.length zc, Value.int IntKind.i64 yT], Value.int IntKind.i64 ye] :: Value.agg #[Value.int IntKind.i64 yA, Value.int IntKind.i64 yB, Value.int IntKind.i64 yC, Value.int IntKind.i64 yD, Value.slice za yL.length zc, Value.int IntKind.i64 yT] :: Value.int IntKind.i64 ye :: Value.tuple #[Value.agg #[Value.int IntKind.i64 pT, Value.slice pa pL.length pc], Value.int IntKind.i64 pe] :: Value.agg #[Value.int IntKind.i64 tw, Value.slice wa Lw.length wc] :: Value.int IntKind.i64 seq :: Value.tuple #[Value.agg #[Value.int IntKind.i64 pT, Value.slice pa pL.length pc], Value.int IntKind.i64 pe] :: Value.agg #[Value.int IntKind.i64 pT, Value.slice pa pL.length pc] :: Value.int IntKind.i64 pe :: Value.tuple #[Value.agg #[Value.int IntKind.i64 pT, Value.slice qa pL.length qc], Value.int IntKind.i64 pe] :: Value.agg #[Value.int IntKind.i64 tw, Value.slice wa Lw.length wc] :: Value.int IntKind.i64 seq :: Value.tuple #[Value.agg #[Value.int IntKind.i64 pT, Value.slice qa pL.length qc], Value.int IntKind.i64 pe] :: Value.agg #[Value.int IntKind.i64 pT, Value.slice qa pL.length qc] :: Value.int IntKind.i64 pe :: vs 0 :: vs 1 :: vs 2 :: vs 3 :: vs 4 :: vs 5 :: vs 6 :: vs 7 :: vs 8 :: vs 9 :: vs 10 :: vs 11 :: vs 12 :: vs 13 :: vs 14 :: vs 15 :: vs 16 :: vs 17 :: vs 18 :: vs 19 :: vs 20 :: vs 21 :: vs 22 :: vs 23 :: vs 24 :: vs 25 :: vs 26 :: vs 27 :: vs 28 :: vs 29 :: vs 30 :: vs 31 :: vs 32 :: undef :: undef :: undef :: undef :: undef :: undef :: undef :: undef :: undef :: undef :: undef :: undef :: undef :: undef :: undef :: undef :: undef :: undef :: undef :: undef :: undef :: undef :: undef :: undef :: undef :: undef :: undef :: undef :: undef :: []), defers := [] } := ⟨_, rfl⟩
  have HLIT := Lib.hid hlit
  clear hlit
  obtain ⟨val, hval⟩ : ∃ val : List Value, val = [.agg #[.int .i64 a, .int .i64 b, .int .i64 c, .int .i64 d, .slice fa l.length fc, .int .i64 t], .bool va, .agg #[.int .i64 a, .int .i64 b, .int .i64 c, .int .i64 d, .slice fa l.length fc, .int .i64 t], .bool va, .bool true, .bool true, .agg #[.int .i64 xA, .int .i64 xB, .int .i64 xC, .int .i64 xD, .slice ra xL.length rc, .int .i64 xT], .agg #[.int .i64 xA, .int .i64 xB, .int .i64 xC, .int .i64 xD, .slice sa xL.length sc, .int .i64 xT], .bool true, .bool true, .bool true, .int .i64 xe, .int .i64 xe, .bool true, .bool true, .bool true, .int .i64 key, .agg #[.int .i64 a, .int .i64 b, .int .i64 c, .int .i64 d, .slice fa l.length fc, .int .i64 t], .int .i64 oe, .int .i64 key, .agg #[.int .i64 a, .int .i64 b, .int .i64 c, .int .i64 d, .slice fa l.length fc, .int .i64 t], .int .i64 oe, .bool true, .bool true, .bool true, .agg #[.int .i64 a, .int .i64 b, .int .i64 c, .int .i64 d, .slice fa l.length fc, .int .i64 t], undef, .string ss, .agg #[.int .i64 a, .int .i64 b, .int .i64 c, .int .i64 d, .slice fa l.length fc, .int .i64 t], undef, .string ss, .bool true, .bool true, .bool true] := ⟨_, rfl⟩
  have E0 := Lib.hid (show val.getD 0 undef = .agg #[.int .i64 a, .int .i64 b, .int .i64 c, .int .i64 d, .slice fa l.length fc, .int .i64 t] by rw [hval]; rfl)
  have E1 := Lib.hid (show val.getD 1 undef = .bool va by rw [hval]; rfl)
  have E2 := Lib.hid (show val.getD 2 undef = .agg #[.int .i64 a, .int .i64 b, .int .i64 c, .int .i64 d, .slice fa l.length fc, .int .i64 t] by rw [hval]; rfl)
  have E3 := Lib.hid (show val.getD 3 undef = .bool va by rw [hval]; rfl)
  have E4 := Lib.hid (show val.getD 4 undef = .bool true by rw [hval]; rfl)
  have E5 := Lib.hid (show val.getD 5 undef = .bool true by rw [hval]; rfl)
  have E6 := Lib.hid (show val.getD 6 undef = .agg #[.int .i64 xA, .int .i64 xB, .int .i64 xC, .int .i64 xD, .slice ra xL.length rc, .int .i64 xT] by rw [hval]; rfl)
  have E7 := Lib.hid (show val.getD 7 undef = .agg #[.int .i64 xA, .int .i64 xB, .int .i64 xC, .int .i64 xD, .slice sa xL.length sc, .int .i64 xT] by rw [hval]; rfl)
  have E8 := Lib.hid (show val.getD 8 undef = .bool true by rw [hval]; rfl)
  have E9 := Lib.hid (show val.getD 9 undef = .bool true by rw [hval]; rfl)
  have E10 := Lib.hid (show val.getD 10 undef = .bool true by rw [hval]; rfl)
  have E11 := Lib.hid (show val.getD 11 undef = .int .i64 xe by rw [hval]; rfl)
  have E12 := Lib.hid (show val.getD 12 undef = .int .i64 xe by rw [hval]; rfl)
  have E13 := Lib.hid (show val.getD 13 undef = .bool true by rw [hval]; rfl)
  have E14 := Lib.hid (show val.getD 14 undef = .bool true by rw [hval]; rfl)
  have E15 := Lib.hid (show val.getD 15 undef = .bool true by rw [hval]; rfl)
  have E16 := Lib.hid (show val.getD 16 undef = .int .i64 key by rw [hval]; rfl)
  have E17 := Lib.hid (show val.getD 17 undef = .agg #[.int .i64 a, .int .i64 b, .int .i64 c, .int .i64 d, .slice fa l.length fc, .int .i64 t] by rw [hval]; rfl)
  have E18 := Lib.hid (show val.getD 18 undef = .int .i64 oe by rw [hval]; rfl)
  have E19 := Lib.hid (show val.getD 19 undef = .int .i64 key by rw [hval]; rfl)
  have E20 := Lib.hid (show val.getD 20 undef = .agg #[.int .i64 a, .int .i64 b, .int .i64 c, .int .i64 d, .slice fa l.length fc, .int .i64 t] by rw [hval]; rfl)
  have E21 := Lib.hid (show val.getD 21 undef = .int .i64 oe by rw [hval]; rfl)
  have E22 := Lib.hid (show val.getD 22 undef = .bool true by rw [hval]; rfl)
  have E23 := Lib.hid (show val.getD 23 undef = .bool true by rw [hval]; rfl)
  have E24 := Lib.hid (show val.getD 24 undef = .bool true by rw [hval]; rfl)
  have E25 := Lib.hid (show val.getD 25 undef = .agg #[.int .i64 a, .int .i64 b, .int .i64 c, .int .i64 d, .slice fa l.length fc, .int .i64 t] by rw [hval]; rfl)
  have E27 := Lib.hid (show val.getD 27 undef = .string ss by rw [hval]; rfl)
  have E28 := Lib.hid (show val.getD 28 undef = .agg #[.int .i64 a, .int .i64 b, .int .i64 c, .int .i64 d, .slice fa l.length fc, .int .i64 t] by rw [hval]; rfl)
  have E30 := Lib.hid (show val.getD 30 undef = .string ss by rw [hval]; rfl)
  have E31 := Lib.hid (show val.getD 31 undef = .bool true by rw [hval]; rfl)
  have E32 := Lib.hid (show val.getD 32 undef = .bool true by rw [hval]; rfl)
  have E33 := Lib.hid (show val.getD 33 undef = .bool true by rw [hval]; rfl)
  clear hval
  obtain ⟨G, hG0⟩ : ∃ G : Nat → Value → World → Prop, G = (fun i v w => (i = 26 → ∃ ua uc, v = .slice ua ne uc ∧ BysAt w v el) ∧ (i = 29 → ∃ ua uc, v = .slice ua ne uc ∧ BysAt w v el) ∧ (i ≠ 26 → i ≠ 29 → v = val.getD i undef)) := ⟨_, rfl⟩
  have HG := Lib.hid hG0
  clear hG0
  refine region_inv (RS lit v7b G) (by kernel_rfl) (by decide +kernel) ?_ ?_ ?_
  · exact ⟨fun i => ([undef, undef, undef, undef, undef, undef, undef, undef, undef, undef, undef, undef, undef, undef, undef, undef, undef, undef, undef, undef, undef, undef, undef, undef, undef, undef, undef, undef, undef, undef, undef, undef, undef, undef] : List Value).getD i undef, (by rw [HLIT.out]; rfl), below_drew _ _, fun i h => by cases h⟩
  · refine ⟨?_, ?_, ?_, ?_, ?_, ?_, ?_, ?_, ?_, ?_, ?_, ?_, ?_, ?_, ?_, ?_, ?_, ?_, ?_, ?_, ?_, ?_, ?_, ?_, ?_, ?_, ?_, ?_, ?_, ?_, ?_, ?_, ?_, ?_, trivial⟩
    · intro bf ac wv hfb haf hJ K' hK
      obtain ⟨vs, rfl, hM, j4⟩ := hJ
      replace hK := Lib.hid hK
      replace hM := Lib.hid hM
      rw [HG.out] at j4
      replace j4 := Lib.hid j4
      clear haf hfb
      have xx0 := (HF.out.step hM.out).c 0 rfl
      have xx1 := (HF.out.step hM.out).c 1 rfl
      have xx2 := (HF.out.step hM.out).c 2 rfl
      have xx3 := (HF.out.step hM.out).c 3 rfl
      have xx4 := (HF.out.step hM.out).c 4 rfl
      have xx5 := (HF.out.step hM.out).c 5 rfl
      have xxz := (HF.out.step hM.out).2.2
      rw [HLIT.out]
      go_simp
      exact hK.out _ _ (RS.next (wv := wv) (vs := vs) 0 (x := .agg #[.int .i64 a, .int .i64 b, .int .i64 c, .int .i64 d, .slice fa l.length fc, .int .i64 t]) (by rw [HLIT.out]; rfl) (by rw [HG.out]; exact j4.out) hM.out (by rw [HG.out]; exact fun _ _ h => h) (by rw [HG.out]; exact ⟨fun h => absurd h (by decide), fun h => absurd h (by decide), fun _ _ => E0.out.symm⟩))
    · intro bf ac wv hfb haf hJ K' hK
      obtain ⟨vs, rfl, hM, j4⟩ := hJ
      replace hK := Lib.hid hK
      replace hM := Lib.hid hM
      rw [HG.out] at j4
      simp [Region.binds] at haf
      have e0 := ((j4 0 (by simp [haf])).2.2 (by decide) (by decide)).trans E0.out
      replace j4 := Lib.hid j4
      clear haf hfb
      rw [HLIT.out]
      go_simp
      go_at_call 17
      refine (valid_any a b c d _ l t _ (HL.out.step hM.out)).mono ?_
      rintro e w4 ⟨rfl, b4⟩
      rw [HVA.out]
      exact hK.out _ _ (RS.next (wv := wv) (vs := vs) 1 (x := .bool va) (by rw [HLIT.out]; simp only [upv, e0, Nat.reduceBEq, cond_true, cond_false]) (by rw [HG.out]; exact j4.out) (keep2 b4 hM.out) (by rw [HG.out]; exact fun k v h => ⟨fun q => (show ∃ ua uc, _ from (h.1 q)).imp fun _ r => r.imp fun _ r => ⟨r.1, r.2.step b4⟩, fun q => (show ∃ ua uc, _ from (h.2.1 q)).imp fun _ r => r.imp fun _ r => ⟨r.1, r.2.step b4⟩, h.2.2⟩) (by rw [HG.out]; exact ⟨fun h => absurd h (by decide), fun h => absurd h (by decide), fun _ _ => E1.out.symm⟩))
    · intro bf ac wv hfb haf hJ K' hK
      obtain ⟨vs, rfl, hM, j4⟩ := hJ
      replace hK := Lib.hid hK
      replace hM := Lib.hid hM
      rw [HG.out] at j4
      replace j4 := Lib.hid j4
      clear haf hfb
      have xx0 := (HF.out.step hM.out).c 0 rfl
      have xx1 := (HF.out.step hM.out).c 1 rfl
      have xx2 := (HF.out.step hM.out).c 2 rfl
      have xx3 := (HF.out.step hM.out).c 3 rfl
      have xx4 := (HF.out.step hM.out).c 4 rfl
      have xx5 := (HF.out.step hM.out).c 5 rfl
      have xxz := (HF.out.step hM.out).2.2
      rw [HLIT.out]
      go_simp
      exact hK.out _ _ (RS.next (wv := wv) (vs := vs) 2 (x := .agg #[.int .i64 a, .int .i64 b, .int .i64 c, .int .i64 d, .slice fa l.length fc, .int .i64 t]) (by rw [HLIT.out]; rfl) (by rw [HG.out]; exact j4.out) hM.out (by rw [HG.out]; exact fun _ _ h => h) (by rw [HG.out]; exact ⟨fun h => absurd h (by decide), fun h => absurd h (by decide), fun _ _ => E2.out.symm⟩))
    · intro bf ac wv hfb haf hJ K' hK
      obtain ⟨vs, rfl, hM, j4⟩ := hJ
      replace hK := Lib.hid hK
      replace hM := Lib.hid hM
      rw [HG.out] at j4
      simp [Region.binds] at haf
      have e2 := ((j4 2 (by simp [haf])).2.2 (by decide) (by decide)).trans E2.out
      replace j4 := Lib.hid j4
      clear haf hfb
      rw [HLIT.out]
      go_simp
      go_at_call 18
      refine (rvalid_any a b c d _ l t _ (HL.out.step hM.out) _ HVA.out).mono ?_
      rintro e w4 ⟨rfl, b4⟩
      exact hK.out _ _ (RS.next (wv := wv) (vs := vs) 3 (x := .bool va) (by rw [HLIT.out]; simp only [upv, e2, Nat.reduceBEq, cond_true, cond_false]) (by rw [HG.out]; exact j4.out) (keep2 b4 hM.out) (by rw [HG.out]; exact fun k v h => ⟨fun q => (show ∃ ua uc, _ from (h.1 q)).imp fun _ r => r.imp fun _ r => ⟨r.1, r.2.step b4⟩, fun q => (show ∃ ua uc, _ from (h.2.1 q)).imp fun _ r => r.imp fun _ r => ⟨r.1, r.2.step b4⟩, h.2.2⟩) (by rw [HG.out]; exact ⟨fun h => absurd h (by decide), fun h => absurd h (by decide), fun _ _ => E3.out.symm⟩))
    · intro bf ac wv hfb haf hJ K' hK
      obtain ⟨vs, rfl, hM, j4⟩ := hJ
      replace hK := Lib.hid hK
      replace hM := Lib.hid hM
      rw [HG.out] at j4
      simp [Region.binds] at haf
      have e1 := ((j4 1 (by simp [haf])).2.2 (by decide) (by decide)).trans E1.out
      have e3 := ((j4 3 (by simp [haf])).2.2 (by decide) (by decide)).trans E3.out
      replace j4 := Lib.hid j4
      clear haf hfb
      rw [HLIT.out]
      go_simp
      exact hK.out _ _ (RS.next (wv := wv) (vs := vs) 4 (x := .bool true) (by rw [HLIT.out]; simp only [upv, e1, e3, Nat.reduceBEq, cond_true, cond_false]) (by rw [HG.out]; exact j4.out) hM.out (by rw [HG.out]; exact fun _ _ h => h) (by rw [HG.out]; exact ⟨fun h => absurd h (by decide), fun h => absurd h (by decide), fun _ _ => E4.out.symm⟩))
    · intro bf ac wv hfb haf hJ K' hK
      obtain ⟨vs, rfl, hM, j4⟩ := hJ
      replace hK := Lib.hid hK
      replace hM := Lib.hid hM
      rw [HG.out] at j4
      simp [Region.binds] at haf
      have e4 := ((j4 4 (by simp [haf])).2.2 (by decide) (by decide)).trans E4.out
      replace j4 := Lib.hid j4
      clear haf hfb
      rw [HLIT.out]
      go_simp
      exact hK.out _ _ (RS.next (wv := wv) (vs := vs) 5 (x := .bool true) (by rw [HLIT.out]; simp only [upv, e4, Nat.reduceBEq, cond_true, cond_false]) (by rw [HG.out]; exact j4.out) hM.out (by rw [HG.out]; exact fun _ _ h => h) (by rw [HG.out]; exact ⟨fun h => absurd h (by decide), fun h => absurd h (by decide), fun _ _ => E5.out.symm⟩))
    · intro bf ac wv hfb haf hJ K' hK
      obtain ⟨vs, rfl, hM, j4⟩ := hJ
      replace hK := Lib.hid hK
      replace hM := Lib.hid hM
      rw [HG.out] at j4
      simp [Region.binds] at haf
      have e5 := ((j4 5 (by simp [haf])).2.2 (by decide) (by decide)).trans E5.out
      replace j4 := Lib.hid j4
      clear haf hfb
      have xx0 := (HrC.out.step hM.out).c 0 rfl
      have xx1 := (HrC.out.step hM.out).c 1 rfl
      have xx2 := (HrC.out.step hM.out).c 2 rfl
      have xx3 := (HrC.out.step hM.out).c 3 rfl
      have xx4 := (HrC.out.step hM.out).c 4 rfl
      have xx5 := (HrC.out.step hM.out).c 5 rfl
      have xxz := (HrC.out.step hM.out).2.2
      rw [HLIT.out]
      go_simp
      exact hK.out _ _ (RS.next (wv := wv) (vs := vs) 6 (x := .agg #[.int .i64 xA, .int .i64 xB, .int .i64 xC, .int .i64 xD, .slice ra xL.length rc, .int .i64 xT]) (by rw [HLIT.out]; simp only [upv, e5, Nat.reduceBEq, cond_true, cond_false]) (by rw [HG.out]; exact j4.out) hM.out (by rw [HG.out]; exact fun _ _ h => h) (by rw [HG.out]; exact ⟨fun h => absurd h (by decide), fun h => absurd h (by decide), fun _ _ => E6.out.symm⟩))
    · intro bf ac wv hfb haf hJ K' hK
      obtain ⟨vs, rfl, hM, j4⟩ := hJ
      replace hK := Lib.hid hK
      replace hM := Lib.hid hM
      rw [HG.out] at j4
      simp [Region.binds] at haf
      have e5 := ((j4 5 (by simp [haf])).2.2 (by decide) (by decide)).trans E5.out
      replace j4 := Lib.hid j4
      clear haf hfb
      have xx0 := (HsC.out.step hM.out).c 0 rfl
      have xx1 := (HsC.out.step hM.out).c 1 rfl
      have xx2 := (HsC.out.step hM.out).c 2 rfl
      have xx3 := (HsC.out.step hM.out).c 3 rfl
      have xx4 := (HsC.out.step hM.out).c 4 rfl
      have xx5 := (HsC.out.step hM.out).c 5 rfl
      have xxz := (HsC.out.step hM.out).2.2
      rw [HLIT.out]
      go_simp
      exact hK.out _ _ (RS.next (wv := wv) (vs := vs) 7 (x := .agg #[.int .i64 xA, .int .i64 xB, .int .i64 xC, .int .i64 xD, .slice sa xL.length sc, .int .i64 xT]) (by rw [HLIT.out]; simp only [upv, e5, Nat.reduceBEq, cond_true, cond_false]) (by rw [HG.out]; exact j4.out) hM.out (by rw [HG.out]; exact fun _ _ h => h) (by rw [HG.out]; exact ⟨fun h => absurd h (by decide), fun h => absurd h (by decide), fun _ _ => E7.out.symm⟩))
    · intro bf ac wv hfb haf hJ K' hK
      obtain ⟨vs, rfl, hM, j4⟩ := hJ
      replace hK := Lib.hid hK
      replace hM := Lib.hid hM
      rw [HG.out] at j4
      simp [Region.binds] at haf
      have e5 := ((j4 5 (by simp [haf])).2.2 (by decide) (by decide)).trans E5.out
      have e6 := ((j4 6 (by simp [haf])).2.2 (by decide) (by decide)).trans E6.out
      have e7 := ((j4 7 (by simp [haf])).2.2 (by decide) (by decide)).trans E7.out
      replace j4 := Lib.hid j4
      clear haf hfb
      rw [HLIT.out]
      go_simp
      go_at_call 19
      refine (same_any xA xB xC xD _ xL xT xA xB xC xD _ xL xT _ (HrI.out.step hM.out) (HsI.out.step hM.out)).mono ?_
      rintro e w4 ⟨rfl, b4⟩
      rw [HSM.out]
      exact hK.out _ _ (RS.next (wv := wv) (vs := vs) 8 (x := .bool true) (by rw [HLIT.out]; simp only [upv, e5, e6, e7, Nat.reduceBEq, cond_true, cond_false]) (by rw [HG.out]; exact j4.out) (keep2 b4 hM.out) (by rw [HG.out]; exact fun k v h => ⟨fun q => (show ∃ ua uc, _ from (h.1 q)).imp fun _ r => r.imp fun _ r => ⟨r.1, r.2.step b4⟩, fun q => (show ∃ ua uc, _ from (h.2.1 q)).imp fun _ r => r.imp fun _ r => ⟨r.1, r.2.step b4⟩, h.2.2⟩) (by rw [HG.out]; exact ⟨fun h => absurd h (by decide), fun h => absurd h (by decide), fun _ _ => E8.out.symm⟩))
    · intro bf ac wv hfb haf hJ K' hK
      obtain ⟨vs, rfl, hM, j4⟩ := hJ
      replace hK := Lib.hid hK
      replace hM := Lib.hid hM
      rw [HG.out] at j4
      simp [Region.binds] at haf
      have e5 := ((j4 5 (by simp [haf])).2.2 (by decide) (by decide)).trans E5.out
      have e8 := ((j4 8 (by simp [haf])).2.2 (by decide) (by decide)).trans E8.out
      replace j4 := Lib.hid j4
      clear haf hfb
      rw [HLIT.out]
      go_simp
      exact hK.out _ _ (RS.next (wv := wv) (vs := vs) 9 (x := .bool true) (by rw [HLIT.out]; simp only [upv, e5, e8, Nat.reduceBEq, cond_true, cond_false]) (by rw [HG.out]; exact j4.out) hM.out (by rw [HG.out]; exact fun _ _ h => h) (by rw [HG.out]; exact ⟨fun h => absurd h (by decide), fun h => absurd h (by decide), fun _ _ => E9.out.symm⟩))
    · intro bf ac wv hfb haf hJ K' hK
      obtain ⟨vs, rfl, hM, j4⟩ := hJ
      replace hK := Lib.hid hK
      replace hM := Lib.hid hM
      rw [HG.out] at j4
      simp [Region.binds] at haf
      have e9 := ((j4 9 (by simp [haf])).2.2 (by decide) (by decide)).trans E9.out
      replace j4 := Lib.hid j4
      clear haf hfb
      rw [HLIT.out]
      go_simp
      exact hK.out _ _ (RS.next (wv := wv) (vs := vs) 10 (x := .bool true) (by rw [HLIT.out]; simp only [upv, e9, Nat.reduceBEq, cond_true, cond_false]) (by rw [HG.out]; exact j4.out) hM.out (by rw [HG.out]; exact fun _ _ h => h) (by rw [HG.out]; exact ⟨fun h => absurd h (by decide), fun h => absurd h (by decide), fun _ _ => E10.out.symm⟩))
    · intro bf ac wv hfb haf hJ K' hK
      obtain ⟨vs, rfl, hM, j4⟩ := hJ
      replace hK := Lib.hid hK
      replace hM := Lib.hid hM
      rw [HG.out] at j4
      simp [Region.binds] at haf
      have e10 := ((j4 10 (by simp [haf])).2.2 (by decide) (by decide)).trans E10.out
      replace j4 := Lib.hid j4
      clear haf hfb
      rw [HLIT.out]
      go_simp
      exact hK.out _ _ (RS.next (wv := wv) (vs := vs) 11 (x := .int .i64 xe) (by rw [HLIT.out]; simp only [upv, e10, Nat.reduceBEq, cond_true, cond_false]) (by rw [HG.out]; exact j4.out) hM.out (by rw [HG.out]; exact fun _ _ h => h) (by rw [HG.out]; exact ⟨fun h => absurd h (by decide), fun h => absurd h (by decide), fun _ _ => E11.out.symm⟩))
    · intro bf ac wv hfb haf hJ K' hK
      obtain ⟨vs, rfl, hM, j4⟩ := hJ
      replace hK := Lib.hid hK
      replace hM := Lib.hid hM
      rw [HG.out] at j4
      simp [Region.binds] at haf
      have e10 := ((j4 10 (by simp [haf])).2.2 (by decide) (by decide)).trans E10.out
      replace j4 := Lib.hid j4
      clear haf hfb
      rw [HLIT.out]
      go_simp
      exact hK.out _ _ (RS.next (wv := wv) (vs := vs) 12 (x := .int .i64 xe) (by rw [HLIT.out]; simp only [upv, e10, Nat.reduceBEq, cond_true, cond_false]) (by rw [HG.out]; exact j4.out) hM.out (by rw [HG.out]; exact fun _ _ h => h) (by rw [HG.out]; exact ⟨fun h => absurd h (by decide), fun h => absurd h (by decide), fun _ _ => E12.out.symm⟩))
    · intro bf ac wv hfb haf hJ K' hK
      obtain ⟨vs, rfl, hM, j4⟩ := hJ
      replace hK := Lib.hid hK
      replace hM := Lib.hid hM
      rw [HG.out] at j4
      simp [Region.binds] at haf
      have e10 := ((j4 10 (by simp [haf])).2.2 (by decide) (by decide)).trans E10.out
      have e11 := ((j4 11 (by simp [haf])).2.2 (by decide) (by decide)).trans E11.out
      have e12 := ((j4 12 (by simp [haf])).2.2 (by decide) (by decide)).trans E12.out
      replace j4 := Lib.hid j4
      clear haf hfb
      rw [HLIT.out]
      go_simp
      exact hK.out _ _ (RS.next (wv := wv) (vs := vs) 13 (x := .bool true) (by rw [HLIT.out]; simp only [upv, e10, e11, e12, Nat.reduceBEq, cond_true, cond_false]) (by rw [HG.out]; exact j4.out) hM.out (by rw [HG.out]; exact fun _ _ h => h) (by rw [HG.out]; exact ⟨fun h => absurd h (by decide), fun h => absurd h (by decide), fun _ _ => E13.out.symm⟩))
    · intro bf ac wv hfb haf hJ K' hK
      obtain ⟨vs, rfl, hM, j4⟩ := hJ
      replace hK := Lib.hid hK
      replace hM := Lib.hid hM
      rw [HG.out] at j4
      simp [Region.binds] at haf
      have e10 := ((j4 10 (by simp [haf])).2.2 (by decide) (by decide)).trans E10.out
      have e13 := ((j4 13 (by simp [haf])).2.2 (by decide) (by decide)).trans E13.out
      replace j4 := Lib.hid j4
      clear haf hfb
      rw [HLIT.out]
      go_simp
      exact hK.out _ _ (RS.next (wv := wv) (vs := vs) 14 (x := .bool true) (by rw [HLIT.out]; simp only [upv, e10, e13, Nat.reduceBEq, cond_true, cond_false]) (by rw [HG.out]; exact j4.out) hM.out (by rw [HG.out]; exact fun _ _ h => h) (by rw [HG.out]; exact ⟨fun h => absurd h (by decide), fun h => absurd h (by decide), fun _ _ => E14.out.symm⟩))
    · intro bf ac wv hfb haf hJ K' hK
      obtain ⟨vs, rfl, hM, j4⟩ := hJ
      replace hK := Lib.hid hK
      replace hM := Lib.hid hM
      rw [HG.out] at j4
      simp [Region.binds] at haf
      have e14 := ((j4 14 (by simp [haf])).2.2 (by decide) (by decide)).trans E14.out
      replace j4 := Lib.hid j4
      clear haf hfb
      rw [HLIT.out]
      go_simp
      exact hK.out _ _ (RS.next (wv := wv) (vs := vs) 15 (x := .bool true) (by rw [HLIT.out]; simp only [upv, e14, Nat.reduceBEq, cond_true, cond_false]) (by rw [HG.out]; exact j4.out) hM.out (by rw [HG.out]; exact fun _ _ h => h) (by rw [HG.out]; exact ⟨fun h => absurd h (by decide), fun h => absurd h (by decide), fun _ _ => E15.out.symm⟩))
    · intro bf ac wv hfb haf hJ K' hK
      obtain ⟨vs, rfl, hM, j4⟩ := hJ
      replace hK := Lib.hid hK
      replace hM := Lib.hid hM
      rw [HG.out] at j4
      simp [Region.binds] at haf
      have e15 := ((j4 15 (by simp [haf])).2.2 (by decide) (by decide)).trans E15.out
      replace j4 := Lib.hid j4
      clear haf hfb
      rw [HLIT.out]
      go_simp
      exact hK.out _ _ (RS.next (wv := wv) (vs := vs) 16 (x := .int .i64 key) (by rw [HLIT.out]; simp only [upv, e15, Nat.reduceBEq, cond_true, cond_false]) (by rw [HG.out]; exact j4.out) hM.out (by rw [HG.out]; exact fun _ _ h => h) (by rw [HG.out]; exact ⟨fun h => absurd h (by decide), fun h => absurd h (by decide), fun _ _ => E16.out.symm⟩))
    · intro bf ac wv hfb haf hJ K' hK
      obtain ⟨vs, rfl, hM, j4⟩ := hJ
      replace hK := Lib.hid hK
      replace hM := Lib.hid hM
      rw [HG.out] at j4
      simp [Region.binds] at haf
      have e15 := ((j4 15 (by simp [haf])).2.2 (by decide) (by decide)).trans E15.out
      replace j4 := Lib.hid j4
      clear haf hfb
      have xx0 := (HF.out.step hM.out).c 0 rfl
      have xx1 := (HF.out.step hM.out).c 1 rfl
      have xx2 := (HF.out.step hM.out).c 2 rfl
      have xx3 := (HF.out.step hM.out).c 3 rfl
      have xx4 := (HF.out.step hM.out).c 4 rfl
      have xx5 := (HF.out.step hM.out).c 5 rfl
      have xxz := (HF.out.step hM.out).2.2
      rw [HLIT.out]
      go_simp
      exact hK.out _ _ (RS.next (wv := wv) (vs := vs) 17 (x := .agg #[.int .i64 a, .int .i64 b, .int .i64 c, .int .i64 d, .slice fa l.length fc, .int .i64 t]) (by rw [HLIT.out]; simp only [upv, e15, Nat.reduceBEq, cond_true, cond_false]) (by rw [HG.out]; exact j4.out) hM.out (by rw [HG.out]; exact fun _ _ h => h) (by rw [HG.out]; exact ⟨fun h => absurd h (by decide), fun h => absurd h (by decide), fun _ _ => E17.out.symm⟩))
    · intro bf ac wv hfb haf hJ K' hK
      obtain ⟨vs, rfl, hM, j4⟩ := hJ
      replace hK := Lib.hid hK
      replace hM := Lib.hid hM
      rw [HG.out] at j4
      simp [Region.binds] at haf
      have e15 := ((j4 15 (by simp [haf])).2.2 (by decide) (by decide)).trans E15.out
      have e16 := ((j4 16 (by simp [haf])).2.2 (by decide) (by decide)).trans E16.out
      have e17 := ((j4 17 (by simp [haf])).2.2 (by decide) (by decide)).trans E17.out
      replace j4 := Lib.hid j4
      clear haf hfb
      rw [HLIT.out]
      go_simp
      go_at_call 20
      refine (ho1.out _ (HL.out.step hM.out)).mono ?_
      rintro e w4 ⟨rfl, b4⟩
      exact hK.out _ _ (RS.next (wv := wv) (vs := vs) 18 (x := .int .i64 oe) (by rw [HLIT.out]; simp only [upv, e15, e16, e17, Nat.reduceBEq, cond_true, cond_false]) (by rw [HG.out]; exact j4.out) (keep2 b4 hM.out) (by rw [HG.out]; exact fun k v h => ⟨fun q => (show ∃ ua uc, _ from (h.1 q)).imp fun _ r => r.imp fun _ r => ⟨r.1, r.2.step b4⟩, fun q => (show ∃ ua uc, _ from (h.2.1 q)).imp fun _ r => r.imp fun _ r => ⟨r.1, r.2.step b4⟩, h.2.2⟩) (by rw [HG.out]; exact ⟨fun h => absurd h (by decide), fun h => absurd h (by decide), fun _ _ => E18.out.symm⟩))
    · intro bf ac wv hfb haf hJ K' hK
      obtain ⟨vs, rfl, hM, j4⟩ := hJ
      replace hK := Lib.hid hK
      replace hM := Lib.hid hM
      rw [HG.out] at j4
      simp [Region.binds] at haf
      have e15 := ((j4 15 (by simp [haf])).2.2 (by decide) (by decide)).trans E15.out
      replace j4 := Lib.hid j4
      clear haf hfb
      rw [HLIT.out]
      go_simp
      exact hK.out _ _ (RS.next (wv := wv) (vs := vs) 19 (x := .int .i64 key) (by rw [HLIT.out]; simp only [upv, e15, Nat.reduceBEq, cond_true, cond_false]) (by rw [HG.out]; exact j4.out) hM.out (by rw [HG.out]; exact fun _ _ h => h) (by rw [HG.out]; exact ⟨fun h => absurd h (by decide), fun h => absurd h (by decide), fun _ _ => E19.out.symm⟩))
    · intro bf ac wv hfb haf hJ K' hK
      obtain ⟨vs, rfl, hM, j4⟩ := hJ
      replace hK := Lib.hid hK
      replace hM := Lib.hid hM
      rw [HG.out] at j4
      simp [Region.binds] at haf
      have e15 := ((j4 15 (by simp [haf])).2.2 (by decide) (by decide)).trans E15.out
      replace j4 := Lib.hid j4
      clear haf hfb
      have xx0 := (HF.out.step hM.out).c 0 rfl
      have xx1 := (HF.out.step hM.out).c 1 rfl
      have xx2 := (HF.out.step hM.out).c 2 rfl
      have xx3 := (HF.out.step hM.out).c 3 rfl
      have xx4 := (HF.out.step hM.out).c 4 rfl
      have xx5 := (HF.out.step hM.out).c 5 rfl
      have xxz := (HF.out.step hM.out).2.2
      rw [HLIT.out]
      go_simp
      exact hK.out _ _ (RS.next (wv := wv) (vs := vs) 20 (x := .agg #[.int .i64 a, .int .i64 b, .int .i64 c, .int .i64 d, .slice fa l.length fc, .int .i64 t]) (by rw [HLIT.out]; simp only [upv, e15, Nat.reduceBEq, cond_true, cond_false]) (by rw [HG.out]; exact j4.out) hM.out (by rw [HG.out]; exact fun _ _ h => h) (by rw [HG.out]; exact ⟨fun h => absurd h (by decide), fun h => absurd h (by decide), fun _ _ => E20.out.symm⟩))
    · intro bf ac wv hfb haf hJ K' hK
      obtain ⟨vs, rfl, hM, j4⟩ := hJ
      replace hK := Lib.hid hK
      replace hM := Lib.hid hM
      rw [HG.out] at j4
      simp [Region.binds] at haf
      have e15 := ((j4 15 (by simp [haf])).2.2 (by decide) (by decide)).trans E15.out
      have e19 := ((j4 19 (by simp [haf])).2.2 (by decide) (by decide)).trans E19.out
      have e20 := ((j4 20 (by simp [haf])).2.2 (by decide) (by decide)).trans E20.out
      replace j4 := Lib.hid j4
      clear haf hfb
      rw [HLIT.out]
      go_simp
      go_at_call 21
      refine (ho2.out _ (HL.out.step hM.out)).mono ?_
      rintro e w4 ⟨rfl, b4⟩
      exact hK.out _ _ (RS.next (wv := wv) (vs := vs) 21 (x := .int .i64 oe) (by rw [HLIT.out]; simp only [upv, e15, e19, e20, Nat.reduceBEq, cond_true, cond_false]) (by rw [HG.out]; exact j4.out) (keep2 b4 hM.out) (by rw [HG.out]; exact fun k v h => ⟨fun q => (show ∃ ua uc, _ from (h.1 q)).imp fun _ r => r.imp fun _ r => ⟨r.1, r.2.step b4⟩, fun q => (show ∃ ua uc, _ from (h.2.1 q)).imp fun _ r => r.imp fun _ r => ⟨r.1, r.2.step b4⟩, h.2.2⟩) (by rw [HG.out]; exact ⟨fun h => absurd h (by decide), fun h => absurd h (by decide), fun _ _ => E21.out.symm⟩))
    · intro bf ac wv hfb haf hJ K' hK
      obtain ⟨vs, rfl, hM, j4⟩ := hJ
      replace hK := Lib.hid hK
      replace hM := Lib.hid hM
      rw [HG.out] at j4
      simp [Region.binds] at haf
      have e15 := ((j4 15 (by simp [haf])).2.2 (by decide) (by decide)).trans E15.out
      have e18 := ((j4 18 (by simp [haf])).2.2 (by decide) (by decide)).trans E18.out
      have e21 := ((j4 21 (by simp [haf])).2.2 (by decide) (by decide)).trans E21.out
      replace j4 := Lib.hid j4
      clear haf hfb
      rw [HLIT.out]
      go_simp
      exact hK.out _ _ (RS.next (wv := wv) (vs := vs) 22 (x := .bool true) (by rw [HLIT.out]; simp only [upv, e15, e18, e21, Nat.reduceBEq, cond_true, cond_false]) (by rw [HG.out]; exact j4.out) hM.out (by rw [HG.out]; exact fun _ _ h => h) (by rw [HG.out]; exact ⟨fun h => absurd h (by decide), fun h => absurd h (by decide), fun _ _ => E22.out.symm⟩))
    · intro bf ac wv hfb haf hJ K' hK
      obtain ⟨vs, rfl, hM, j4⟩ := hJ
      replace hK := Lib.hid hK
      replace hM := Lib.hid hM
      rw [HG.out] at j4
      simp [Region.binds] at haf
      have e15 := ((j4 15 (by simp [haf])).2.2 (by decide) (by decide)).trans E15.out
      have e22 := ((j4 22 (by simp [haf])).2.2 (by decide) (by decide)).trans E22.out
      replace j4 := Lib.hid j4
      clear haf hfb
      rw [HLIT.out]
      go_simp
      exact hK.out _ _ (RS.next (wv := wv) (vs := vs) 23 (x := .bool true) (by rw [HLIT.out]; simp only [upv, e15, e22, Nat.reduceBEq, cond_true, cond_false]) (by rw [HG.out]; exact j4.out) hM.out (by rw [HG.out]; exact fun _ _ h => h) (by rw [HG.out]; exact ⟨fun h => absurd h (by decide), fun h => absurd h (by decide), fun _ _ => E23.out.symm⟩))
    · intro bf ac wv hfb haf hJ K' hK
      obtain ⟨vs, rfl, hM, j4⟩ := hJ
      replace hK := Lib.hid hK
      replace hM := Lib.hid hM
      rw [HG.out] at j4
      simp [Region.binds] at haf
      have e23 := ((j4 23 (by simp [haf])).2.2 (by decide) (by decide)).trans E23.out
      replace j4 := Lib.hid j4
      clear haf hfb
      rw [HLIT.out]
      go_simp
      exact hK.out _ _ (RS.next (wv := wv) (vs := vs) 24 (x := .bool true) (by rw [HLIT.out]; simp only [upv, e23, Nat.reduceBEq, cond_true, cond_false]) (by rw [HG.out]; exact j4.out) hM.out (by rw [HG.out]; exact fun _ _ h => h) (by rw [HG.out]; exact ⟨fun h => absurd h (by decide), fun h => absurd h (by decide), fun _ _ => E24.out.symm⟩))
    · intro bf ac wv hfb haf hJ K' hK
      obtain ⟨vs, rfl, hM, j4⟩ := hJ
      replace hK := Lib.hid hK
      replace hM := Lib.hid hM
      rw [HG.out] at j4
      simp [Region.binds] at haf
      have e24 := ((j4 24 (by simp [haf])).2.2 (by decide) (by decide)).trans E24.out
      replace j4 := Lib.hid j4
      clear haf hfb
      have xx0 := (HF.out.step hM.out).c 0 rfl
      have xx1 := (HF.out.step hM.out).c 1 rfl
      have xx2 := (HF.out.step hM.out).c 2 rfl
      have xx3 := (HF.out.step hM.out).c 3 rfl
      have xx4 := (HF.out.step hM.out).c 4 rfl
      have xx5 := (HF.out.step hM.out).c 5 rfl
      have xxz := (HF.out.step hM.out).2.2
      rw [HLIT.out]
      go_simp
      exact hK.out _ _ (RS.next (wv := wv) (vs := vs) 25 (x := .agg #[.int .i64 a, .int .i64 b, .int .i64 c, .int .i64 d, .slice fa l.length fc, .int .i64 t]) (by rw [HLIT.out]; simp only [upv, e24, Nat.reduceBEq, cond_true, cond_false]) (by rw [HG.out]; exact j4.out) hM.out (by rw [HG.out]; exact fun _ _ h => h) (by rw [HG.out]; exact ⟨fun h => absurd h (by decide), fun h => absurd h (by decide), fun _ _ => E25.out.symm⟩))
    · intro bf ac wv hfb haf hJ K' hK
      obtain ⟨vs, rfl, hM, j4⟩ := hJ
      replace hK := Lib.hid hK
      replace hM := Lib.hid hM
      rw [HG.out] at j4
      simp [Region.binds] at haf
      have e24 := ((j4 24 (by simp [haf])).2.2 (by decide) (by decide)).trans E24.out
      have e25 := ((j4 25 (by simp [haf])).2.2 (by decide) (by decide)).trans E25.out
      replace j4 := Lib.hid j4
      clear haf hfb
      rw [HLIT.out]
      go_simp
      go_at_call 22
      refine (encode_any a b c d _ l t _ (HL.out.step hM.out)).mono ?_
      rintro e w4 ⟨u, rfl, hu, b4⟩
      rw [HEN.out] at hu
      obtain ⟨ea, ec, hus⟩ := row_slice hu
      rw [HNE.out] at hus
      have hu5 := bys_of_row hu
      subst hus
      exact hK.out _ _ (RS.next (wv := wv) (vs := vs) 26 (x := .slice ea ne ec) (by rw [HLIT.out]; simp only [upv, e24, e25, Nat.reduceBEq, cond_true, cond_false]) (by rw [HG.out]; exact j4.out) (keep2 b4 hM.out) (by rw [HG.out]; exact fun k v h => ⟨fun q => (show ∃ ua uc, _ from (h.1 q)).imp fun _ r => r.imp fun _ r => ⟨r.1, r.2.step b4⟩, fun q => (show ∃ ua uc, _ from (h.2.1 q)).imp fun _ r => r.imp fun _ r => ⟨r.1, r.2.step b4⟩, h.2.2⟩) (by rw [HG.out]; exact ⟨fun _ => ⟨ea, ec, rfl, hu5⟩, fun h => absurd h (by decide), fun h26 => absurd rfl h26⟩))
    · intro bf ac wv hfb haf hJ K' hK
      obtain ⟨vs, rfl, hM, j4⟩ := hJ
      replace hK := Lib.hid hK
      replace hM := Lib.hid hM
      rw [HG.out] at j4
      simp [Region.binds] at haf
      have e24 := ((j4 24 (by simp [haf])).2.2 (by decide) (by decide)).trans E24.out
      have e26 := (j4 26 (by simp [haf])).1 rfl
      replace j4 := Lib.hid j4
      clear haf hfb
      obtain ⟨ua, uc, hx, hu6⟩ := e26
      have cv := conv_bys hu6
      rw [HSS.out, hx] at cv
      rw [HLIT.out]
      go_simp
      exact hK.out _ _ (RS.next (wv := wv) (vs := vs) 27 (x := .string ss) (by rw [HLIT.out]; simp only [upv, e24, hx, Nat.reduceBEq, cond_true, cond_false]) (by rw [HG.out]; exact j4.out) hM.out (by rw [HG.out]; exact fun _ _ h => h) (by rw [HG.out]; exact ⟨fun h => absurd h (by decide), fun h => absurd h (by decide), fun _ _ => E27.out.symm⟩))
    · intro bf ac wv hfb haf hJ K' hK
      obtain ⟨vs, rfl, hM, j4⟩ := hJ
      replace hK := Lib.hid hK
      replace hM := Lib.hid hM
      rw [HG.out] at j4
      simp [Region.binds] at haf
      have e24 := ((j4 24 (by simp [haf])).2.2 (by decide) (by decide)).trans E24.out
      replace j4 := Lib.hid j4
      clear haf hfb
      have xx0 := (HF.out.step hM.out).c 0 rfl
      have xx1 := (HF.out.step hM.out).c 1 rfl
      have xx2 := (HF.out.step hM.out).c 2 rfl
      have xx3 := (HF.out.step hM.out).c 3 rfl
      have xx4 := (HF.out.step hM.out).c 4 rfl
      have xx5 := (HF.out.step hM.out).c 5 rfl
      have xxz := (HF.out.step hM.out).2.2
      rw [HLIT.out]
      go_simp
      exact hK.out _ _ (RS.next (wv := wv) (vs := vs) 28 (x := .agg #[.int .i64 a, .int .i64 b, .int .i64 c, .int .i64 d, .slice fa l.length fc, .int .i64 t]) (by rw [HLIT.out]; simp only [upv, e24, Nat.reduceBEq, cond_true, cond_false]) (by rw [HG.out]; exact j4.out) hM.out (by rw [HG.out]; exact fun _ _ h => h) (by rw [HG.out]; exact ⟨fun h => absurd h (by decide), fun h => absurd h (by decide), fun _ _ => E28.out.symm⟩))
    · intro bf ac wv hfb haf hJ K' hK
      obtain ⟨vs, rfl, hM, j4⟩ := hJ
      replace hK := Lib.hid hK
      replace hM := Lib.hid hM
      rw [HG.out] at j4
      simp [Region.binds] at haf
      have e24 := ((j4 24 (by simp [haf])).2.2 (by decide) (by decide)).trans E24.out
      have e28 := ((j4 28 (by simp [haf])).2.2 (by decide) (by decide)).trans E28.out
      replace j4 := Lib.hid j4
      clear haf hfb
      rw [HLIT.out]
      go_simp
      go_at_call 23
      refine (rencode_any a b c d _ l t _ (HL.out.step hM.out)).mono ?_
      rintro e w4 ⟨u, rfl, hu, b4⟩
      rw [HEN.out] at hu
      obtain ⟨ea, ec, hus⟩ := row_slice hu
      rw [HNE.out] at hus
      have hu5 := bys_of_row hu
      subst hus
      exact hK.out _ _ (RS.next (wv := wv) (vs := vs) 29 (x := .slice ea ne ec) (by rw [HLIT.out]; simp only [upv, e24, e28, Nat.reduceBEq, cond_true, cond_false]) (by rw [HG.out]; exact j4.out) (keep2 b4 hM.out) (by rw [HG.out]; exact fun k v h => ⟨fun q => (show ∃ ua uc, _ from (h.1 q)).imp fun _ r => r.imp fun _ r => ⟨r.1, r.2.step b4⟩, fun q => (show ∃ ua uc, _ from (h.2.1 q)).imp fun _ r => r.imp fun _ r => ⟨r.1, r.2.step b4⟩, h.2.2⟩) (by rw [HG.out]; exact ⟨fun h => absurd h (by decide), fun _ => ⟨ea, ec, rfl, hu5⟩, fun h26 => fun h29 => absurd rfl h29⟩))
    · intro bf ac wv hfb haf hJ K' hK
      obtain ⟨vs, rfl, hM, j4⟩ := hJ
      replace hK := Lib.hid hK
      replace hM := Lib.hid hM
      rw [HG.out] at j4
      simp [Region.binds] at haf
      have e24 := ((j4 24 (by simp [haf])).2.2 (by decide) (by decide)).trans E24.out
      have e29 := (j4 29 (by simp [haf])).2.1 rfl
      replace j4 := Lib.hid j4
      clear haf hfb
      obtain ⟨ua, uc, hx, hu6⟩ := e29
      have cv := conv_bys hu6
      rw [HSS.out, hx] at cv
      rw [HLIT.out]
      go_simp
      exact hK.out _ _ (RS.next (wv := wv) (vs := vs) 30 (x := .string ss) (by rw [HLIT.out]; simp only [upv, e24, hx, Nat.reduceBEq, cond_true, cond_false]) (by rw [HG.out]; exact j4.out) hM.out (by rw [HG.out]; exact fun _ _ h => h) (by rw [HG.out]; exact ⟨fun h => absurd h (by decide), fun h => absurd h (by decide), fun _ _ => E30.out.symm⟩))
    · intro bf ac wv hfb haf hJ K' hK
      obtain ⟨vs, rfl, hM, j4⟩ := hJ
      replace hK := Lib.hid hK
      replace hM := Lib.hid hM
      rw [HG.out] at j4
      simp [Region.binds] at haf
      have e24 := ((j4 24 (by simp [haf])).2.2 (by decide) (by decide)).trans E24.out
      have e27 := ((j4 27 (by simp [haf])).2.2 (by decide) (by decide)).trans E27.out
      have e30 := ((j4 30 (by simp [haf])).2.2 (by decide) (by decide)).trans E30.out
      replace j4 := Lib.hid j4
      clear haf hfb
      rw [HLIT.out]
      go_simp
      exact hK.out _ _ (RS.next (wv := wv) (vs := vs) 31 (x := .bool true) (by rw [HLIT.out]; simp only [upv, e24, e27, e30, Nat.reduceBEq, cond_true, cond_false]) (by rw [HG.out]; exact j4.out) hM.out (by rw [HG.out]; exact fun _ _ h => h) (by rw [HG.out]; exact ⟨fun h => absurd h (by decide), fun h => absurd h (by decide), fun _ _ => E31.out.symm⟩))
    · intro bf ac wv hfb haf hJ K' hK
      obtain ⟨vs, rfl, hM, j4⟩ := hJ
      replace hK := Lib.hid hK
      replace hM := Lib.hid hM
      rw [HG.out] at j4
      simp [Region.binds] at haf
      have e24 := ((j4 24 (by simp [haf])).2.2 (by decide) (by decide)).trans E24.out
      have e31 := ((j4 31 (by simp [haf])).2.2 (by decide) (by decide)).trans E31.out
      replace j4 := Lib.hid j4
      clear haf hfb
      rw [HLIT.out]
      go_simp
      exact hK.out _ _ (RS.next (wv := wv) (vs := vs) 32 (x := .bool true) (by rw [HLIT.out]; simp only [upv, e24, e31, Nat.reduceBEq, cond_true, cond_false]) (by rw [HG.out]; exact j4.out) hM.out (by rw [HG.out]; exact fun _ _ h => h) (by rw [HG.out]; exact ⟨fun h => absurd h (by decide), fun h => absurd h (by decide), fun _ _ => E32.out.symm⟩))
    · intro bf ac wv hfb haf hJ K' hK
      obtain ⟨vs, rfl, hM, j4⟩ := hJ
      replace hK := Lib.hid hK
      replace hM := Lib.hid hM
      rw [HG.out] at j4
      simp [Region.binds] at haf
      have e32 := ((j4 32 (by simp [haf])).2.2 (by decide) (by decide)).trans E32.out
      replace j4 := Lib.hid j4
      clear haf hfb
      rw [HLIT.out]
      go_simp
      exact hK.out _ _ (RS.next (wv := wv) (vs := vs) 33 (x := .bool true) (by rw [HLIT.out]; simp only [upv, e32, Nat.reduceBEq, cond_true, cond_false]) (by rw [HG.out]; exact j4.out) hM.out (by rw [HG.out]; exact fun _ _ h => h) (by rw [HG.out]; exact ⟨fun h => absurd h (by decide), fun h => absurd h (by decide), fun _ _ => E33.out.symm⟩))
  · intro bf ac wv hall hJ
    obtain ⟨vs, rfl, hM, j4⟩ := hJ
    rw [HG.out] at j4
    have hlast := ((j4 33 (hall 33 (by decide))).2.2 (by decide) (by decide)).trans E33.out
    clear j4 hall
    rw [HLIT.out]
    dsimp only
    rw [hlast]
    clear hlast HLIT HG E0 E1 E2 E3 E4 E5 E6 E7 E8 E9 E10 E11 E12 E13 E14 E15 E16 E17 E18 E19 E20 E21 E22 E23 E24 E25 E27 E28 E30 E31 E32 E33
    replace HyC := Lib.hid (HyC.out.step hM)
    replace HzC := Lib.hid (HzC.out.step hM)
    replace HpC := Lib.hid (HpC.out.step hM)
    replace HqC := Lib.hid (HqC.out.step hM)
    replace HyI := Lib.hid (HyI.out.step hM)
    replace HzI := Lib.hid (HzI.out.step hM)
    replace HpI := Lib.hid (HpI.out.step hM)
    replace HqI := Lib.hid (HqI.out.step hM)
    replace HB := Lib.hid (keep2 hM HB.out)
    clear hM
    have y0 := HyC.out.c 0 rfl
    have y1 := HyC.out.c 1 rfl
    have y2 := HyC.out.c 2 rfl
    have y3 := HyC.out.c 3 rfl
    have y4 := HyC.out.c 4 rfl
    have y5 := HyC.out.c 5 rfl
    have yz := HyC.out.2.2
    have z0 := HzC.out.c 0 rfl
    have z1 := HzC.out.c 1 rfl
    have z2 := HzC.out.c 2 rfl
    have z3 := HzC.out.c 3 rfl
    have z4 := HzC.out.c 4 rfl
    have z5 := HzC.out.c 5 rfl
    have zz := HzC.out.2.2
    have p0 := HpC.out.c 0 rfl
    have p1 := HpC.out.c 1 rfl
    have pz := HpC.out.2.2
    have q0 := HqC.out.c 0 rfl
    have q1 := HqC.out.c 1 rfl
    have qz := HqC.out.2.2
    go_wp2_with fail
    have HSM2 := Lib.hid (show sameB yA yB yC yD yL yT yA yB yC yD yL yT = true by simp [sameB])
    refine (same_any yA yB yC yD _ yL yT yA yB yC yD _ yL yT _ HyI.out HzI.out).mono ?_
    rintro e u1 ⟨rfl, b⟩
    rw [HSM2.out]
    replace HyC := Lib.hid (HyC.out.step b)
    replace HzC := Lib.hid (HzC.out.step b)
    replace HpC := Lib.hid (HpC.out.step b)
    replace HqC := Lib.hid (HqC.out.step b)
    replace HyI := Lib.hid (HyI.out.step b)
    replace HzI := Lib.hid (HzI.out.step b)
    replace HpI := Lib.hid (HpI.out.step b)
    replace HqI := Lib.hid (HqI.out.step b)
    replace HB := Lib.hid (keep2 b HB.out)
    clear b y0 z0 y1 z1 y2 z2 y3 z3 y4 z4 y5 z5 yz zz p0 p1 pz q0 q1 qz
    have p0 := HpC.out.c 0 rfl
    have p1 := HpC.out.c 1 rfl
    have pz := HpC.out.2.2
    have q0 := HqC.out.c 0 rfl
    have q1 := HqC.out.c 1 rfl
    have qz := HqC.out.2.2
    go_wp2_with fail
    refine (samew_any pT _ _ pL _ HpI.out HqI.out).mono ?_
    rintro e u2 ⟨rfl, b⟩
    replace HB := Lib.hid (keep2 b HB.out)
    clear b p0 p1 pz q0 q1 qz
    go_wp2_with fail
    refine (fresh1_any _).mono ?_
    rintro e u3 ⟨s1, rfl, h1, b⟩
    have HS1 := Lib.hid (bos_row (by simp) h1)
    replace HB := Lib.hid (keep2 b HB.out)
    clear b h1
    go_wp2_with fail
    refine (rfresh_any _).mono ?_
    rintro e u4 ⟨s2, rfl, h2, b⟩
    have HS2 := Lib.hid (bos_row (by simp) h2)
    replace HS1 := Lib.hid (HS1.out.step b)
    replace HB := Lib.hid (keep2 b HB.out)
    clear b h2
    go_wp2_with fail
    refine (samew_any (-1) _ _ _ _ HS1.out HS2.out).mono ?_
    rintro e u5 ⟨rfl, b⟩
    replace HB := Lib.hid (keep2 b HB.out)
    clear b
    go_wp2
    go_ret
    exact ⟨by simp, HB.out⟩
theorem match_w (key a b c d : Int) (sl : Value) (l : List Int) (t : Int) (vb : Value) (lb : List Int) (tw : Int) (sw : Value) (Lw : List Bool) (seq : Int) (w : World) (h : IntsAt w sl l) (hb : BysAt w vb lb) (hby : IsBy lb) (hw : BosAt w sw Lw) (hcap : ∀ a n c, sw = .slice a n c → n ≤ c) (_ : -9223372036854775808 ≤ tw) (_ : tw ≤ 9223372036854775807) :
    Calls Try.prog 3 #[.int .i64 key, .agg #[.int .i64 a, .int .i64 b, .int .i64 c, .int .i64 d, sl, .int .i64 t], vb, .agg #[.int .i64 tw, sw], .int .i64 seq] w fun e w' => e = .returned (.bool true) ∧ Below w.heap.size w w' :=
  match_any key a b c d sl l t vb lb tw sw Lw seq w h hb hby hw hcap
end Go.Proofs.Ytebeaekiaikgmaa
