/- Shedding: the law of the reference. -/
import Derived.Test.YtpablikcidlkaaaTi
namespace Go.Proofs.Ytpablikcidlkaaa
open Go.RowKit

theorem valid_q (v : Value) (l : List (Int × Int)) (w : World) (h : ConsAt w v l) (b : Bool) (hb : acB l = b) : Calls Try.prog 26 #[v] w fun e w' => e = .returned (.bool b) ∧ Below w.heap.size w w' := by
  subst hb; exact valid_any v l w h
set_option maxRecDepth 100000 in
set_option maxHeartbeats 8000000 in
theorem rstep_q (v vb : Value) (l : List (Int × Int)) (bf : List Bool) (x m : Int) (w : World) (h : ConsAt w v l) (hbf : BosAt w vb bf) : Calls Try.prog 14 #[v, vb, .int .i64 x, .int .i64 m] w (KpP l (lim2 bf x m) (stB l bf x m) w) := by
  obtain ⟨va, vc, rfl, hml⟩ : ∃ a c, v = .slice a l.length c ∧ l.length ≤ maxLen := (by obtain ⟨a, c, e, _, hm, -⟩ := h; exact ⟨a, c, e, hm⟩)
  cases hok : stB l bf x m
  · obtain ⟨ba, bc, rfl, hbl⟩ : ∃ a c, vb = .slice a bf.length c ∧ bf.length ≤ maxLen := (by obtain ⟨a, c, e, _, h, -⟩ := hbf; exact ⟨a, c, e, h⟩)
    have HL := Lib.hid h
    unfold maxLen at hbl hml
    clear h hbf
    cases h1 : acB l
    · have H1 := Lib.hid h1
      clear h1 hok
      go_enter Try.func14, Try.ntmps14
      go_wp2_with fail
      refine (valid_q _ l _ HL.out _ H1.out).mono ?_
      rintro e w1 ⟨rfl, b⟩
      have HB := Lib.hid b
      clear b
      go_wp2
      go_ret2
      exact ⟨_, rfl, bos_nil _, HB.out⟩
    · have H1 := Lib.hid h1
      by_cases hn : bf.length = l.length
      · have g1 : ((bf.length : Int) != (l.length : Int)) = false := by simp; omega
        cases h2 : wiB x 1000000000
        · have H2 := Lib.hid h2
          clear h1 h2 hok
          replace hn := Lib.hid hn
          go_enter Try.func14, Try.ntmps14
          go_wp2_with fail
          refine (valid_q _ l _ HL.out _ H1.out).mono ?_
          rintro e w1 ⟨rfl, b⟩
          have HB := Lib.hid b
          clear b
          go_wp2_with fail
          refine (amount_q x _ H2.out _).mono ?_
          rintro e w9 ⟨rfl, rfl⟩
          go_wp2
          go_ret2
          exact ⟨_, rfl, bos_nil _, HB.out⟩
        · cases h3 : wiB m 1000000000
          · have H2 := Lib.hid h2
            have H3 := Lib.hid h3
            clear h1 h2 h3 hok
            replace hn := Lib.hid hn
            go_enter Try.func14, Try.ntmps14
            go_wp2_with fail
            refine (valid_q _ l _ HL.out _ H1.out).mono ?_
            rintro e w1 ⟨rfl, b⟩
            have HB := Lib.hid b
            clear b
            go_wp2_with fail
            refine (amount_q x _ H2.out _).mono ?_
            rintro e w9 ⟨rfl, rfl⟩
            go_wp2_with fail
            refine (amount_q m _ H3.out _).mono ?_
            rintro e w9 ⟨rfl, rfl⟩
            go_wp2
            go_ret2
            exact ⟨_, rfl, bos_nil _, HB.out⟩
          · exfalso
            unfold stB at hok
            rw [h1, h2, h3] at hok
            simp [hn] at hok
      · have g1 : ((bf.length : Int) != (l.length : Int)) = true := by simp; omega
        have g2 : ((bf.length : Int) = (l.length : Int)) = False := by simp; omega
        clear h1 hok
        replace hn := Lib.hid hn
        go_enter Try.func14, Try.ntmps14
        go_wp2_with fail
        refine (valid_q _ l _ HL.out _ H1.out).mono ?_
        rintro e w1 ⟨rfl, b⟩
        have HB := Lib.hid b
        clear b
        go_wp2
        go_ret2
        exact ⟨_, rfl, bos_nil _, HB.out⟩
  · exact rstep_main va vc vb l bf x m w h hbf hok
theorem rstep_e (v vb : Value) (l : List (Int × Int)) (bf : List Bool) (x m : Int) (w : World) (h : ConsAt w v l) (hb : BosAt w vb bf) (ok : Bool) (r : List Bool) (hok : stB l bf x m = ok) (hr : cond ok (kpL l (lim2 bf x m)) [] = r) :
    Calls Try.prog 14 #[v, vb, .int .i64 x, .int .i64 m] w fun e w' => ∃ u, e = .returned (.tuple #[u, .int .i64 (cond ok 0 1)]) ∧ BosAt w' u r ∧ Below w.heap.size w w' := by
  subst hr hok
  exact rstep_q v vb l bf x m w h hb
theorem wi0 : wiB 0 1000000000 = true := by decide
set_option maxRecDepth 100000 in
set_option maxHeartbeats 4000000 in
theorem rkeep_e (v : Value) (l : List (Int × Int)) (x : Int) (w : World) (h : ConsAt w v l) (h6 : l.length ≤ 600) (ok : Bool) (r : List Bool) (hok : (acB l && wiB x 1000000000) = ok) (hr : cond ok (kpL l fun _ => x) [] = r) :
    Calls Try.prog 12 #[v, .int .i64 x] w fun e w' => ∃ u, e = .returned (.tuple #[u, .int .i64 (cond ok 0 1)]) ∧ BosAt w' u r ∧ Below w.heap.size w w' := by
  have hok2 : stB l (List.replicate l.length false) x 0 = ok := by unfold stB; rw [← hok, wi0]; simp
  have hr2 : cond ok (kpL l (lim2 (List.replicate l.length false) x 0)) [] = r := by rw [step_zero]; exact hr
  have hmk := hmkB l.length (by omega)
  have HAL := Lib.hid (al w (.cells (Array.replicate l.length (.bool false)) 4))
  have e : bArr (List.replicate l.length false) = Array.replicate l.length (.bool false) := by simp [bArr]
  have hbx : BoxN (w.alloc (.cells (Array.replicate l.length (.bool false)) 4)) w.heap.size (bArr (List.replicate l.length false)) 4 := by rw [e]; exact BoxN.new w _ 4 rfl
  have HI := Lib.hid (rstep_e v _ l (List.replicate l.length false) x 0 _ (h.step HAL.out) (bos_box (n := l.length) hbx (by simp) (by omega)) ok r hok2 hr2)
  obtain ⟨va, vc, rfl⟩ : ∃ a c, v = .slice a l.length c := (by obtain ⟨a, c, e, -⟩ := h; exact ⟨a, c, e⟩)
  clear h hok hr hok2 hr2 e hbx
  go_enter Try.func12, Try.ntmps12
  go_wp2_with fail
  refine HI.out.mono ?_
  rintro e w2 ⟨u, rfl, r, b⟩
  have HR := Lib.hid r
  have HB := Lib.hid (keep2 b HAL.out)
  clear r b
  go_wp2
  go_ret2
  exact ⟨_, rfl, HR.out, HB.out⟩
set_option maxRecDepth 100000 in
set_option maxHeartbeats 8000000 in
theorem match_any (v : Value) (l : List (Int × Int)) (vb : Value) (bf : List Bool) (x m : Int) (w : World) (h : ConsAt w v l) (hbf : BosAt w vb bf) :
    Calls Try.prog 3 #[v, vb, .int .i64 x, .int .i64 m] w fun e w' => e = .returned (.bool true) ∧ Below w.heap.size w w' := by
  have HL := Lib.hid h
  have HBF := Lib.hid hbf
  obtain ⟨va, vc, rfl, hml⟩ : ∃ a c, v = .slice a l.length c ∧ l.length ≤ maxLen := (by obtain ⟨a, c, e, _, hm, -⟩ := h; exact ⟨a, c, e, hm⟩)
  obtain ⟨ba, bc, rfl, hbl⟩ : ∃ a c, vb = .slice a bf.length c ∧ bf.length ≤ maxLen := (by obtain ⟨a, c, e, _, h, -⟩ := hbf; exact ⟨a, c, e, h⟩)
  unfold maxLen at hml hbl
  clear h hbf
  by_cases hm : (l.length ≤ 60 ∨ 500 < l.length) ∧ l.length ≤ 600 ∧ bf.length ≤ 600
  · obtain ⟨m1, m2, m3⟩ := hm
    have e2 : ¬ (600 < (l.length : Int)) := by omega
    have e2b : decide (600 < (l.length : Int)) = false := decide_eq_false e2
    have e3 : ¬ (600 < (bf.length : Int)) := by omega
    have e3b : decide (600 < (bf.length : Int)) = false := decide_eq_false e3
    obtain ⟨ok1, h1⟩ : ∃ z, (acB l && wiB x 1000000000) = z := ⟨_, rfl⟩
    obtain ⟨ok2, h2⟩ : ∃ z, stB l bf x m = z := ⟨_, rfl⟩
    have H1 := Lib.hid h1
    have H2 := Lib.hid h2
    obtain ⟨r1, q1⟩ : ∃ z, cond ok1 (kpL l fun _ => x) [] = z := ⟨_, rfl⟩
    obtain ⟨r2, q2⟩ : ∃ z, cond ok2 (kpL l (lim2 bf x m)) [] = z := ⟨_, rfl⟩
    have Q1 := Lib.hid q1
    have Q2 := Lib.hid q2
    clear h1 h2 q1 q2
    have M2 := Lib.hid m2
    by_cases c1 : 60 < l.length
    · have c2 : 500 < l.length := by omega
      have d1 : 60 < (l.length : Int) := by omega
      have d1b : decide (60 < (l.length : Int)) = true := decide_eq_true d1
      have d2 : ¬ ((l.length : Int) ≤ 500) := by omega
      have d2b : decide ((l.length : Int) ≤ 500) = false := decide_eq_false d2
      clear c1 c2 m1
      cases ok1 <;> cases ok2
      all_goals
        go_enter Try.func3, Try.ntmps3
        go_wp2_with fail
        refine (head_any _).mono ?_
        rintro e w1 ⟨rfl, b⟩
        replace HL := Lib.hid (HL.out.step b)
        replace HBF := Lib.hid (HBF.out.step b)
        have HB := Lib.hid b
        clear b
        go_wp2_with fail
        refine (keep_e _ l x _ HL.out _ r1 H1.out Q1.out).mono ?_
        rintro e w2 ⟨u2, rfl, r, b⟩
        replace HL := Lib.hid (HL.out.step b)
        replace HBF := Lib.hid (HBF.out.step b)
        replace HB := Lib.hid (keep2 b HB.out)
        have RA := Lib.hid r
        clear b r
        go_wp2_with fail
        refine (rkeep_e _ l x _ HL.out M2.out _ r1 H1.out Q1.out).mono ?_
        rintro e w3 ⟨u3, rfl, r, b⟩
        replace HL := Lib.hid (HL.out.step b)
        replace HBF := Lib.hid (HBF.out.step b)
        replace HB := Lib.hid (keep2 b HB.out)
        replace RA := Lib.hid (RA.out.step b)
        have RB := Lib.hid r
        clear b r
        go_wp2_with fail
        refine (step_e _ _ l bf x m _ HL.out HBF.out _ r2 H2.out Q2.out).mono ?_
        rintro e w4 ⟨u4, rfl, r, b⟩
        replace HL := Lib.hid (HL.out.step b)
        replace HBF := Lib.hid (HBF.out.step b)
        replace HB := Lib.hid (keep2 b HB.out)
        replace RA := Lib.hid (RA.out.step b)
        replace RB := Lib.hid (RB.out.step b)
        have RC := Lib.hid r
        clear b r
        go_wp2_with fail
        refine (rstep_e _ _ l bf x m _ HL.out HBF.out _ r2 H2.out Q2.out).mono ?_
        rintro e w5 ⟨u5, rfl, r, b⟩
        replace HB := Lib.hid (keep2 b HB.out)
        replace RA := Lib.hid (RA.out.step b)
        replace RB := Lib.hid (RB.out.step b)
        replace RC := Lib.hid (RC.out.step b)
        have RD := Lib.hid r
        clear b r
        go_wp2_with fail
        refine (same_e _ _ _ _ _ RA.out RB.out true (by simp)).mono ?_
        rintro e w6 ⟨rfl, b⟩
        replace HB := Lib.hid (keep2 b HB.out)
        replace RC := Lib.hid (RC.out.step b)
        replace RD := Lib.hid (RD.out.step b)
        clear b
        go_wp2_with fail
        refine (same_e _ _ _ _ _ RC.out RD.out true (by simp)).mono ?_
        rintro e w7 ⟨rfl, b⟩
        replace HB := Lib.hid (keep2 b HB.out)
        clear b
        go_wp2
        go_ret
        exact ⟨by simp, HB.out⟩
    · have d1 : ¬ 60 < (l.length : Int) := by omega
      have d1b : decide (60 < (l.length : Int)) = false := decide_eq_false d1
      clear c1 m1
      cases ok1 <;> cases ok2
      all_goals
        go_enter Try.func3, Try.ntmps3
        go_wp2_with fail
        refine (head_any _).mono ?_
        rintro e w1 ⟨rfl, b⟩
        replace HL := Lib.hid (HL.out.step b)
        replace HBF := Lib.hid (HBF.out.step b)
        have HB := Lib.hid b
        clear b
        go_wp2_with fail
        refine (keep_e _ l x _ HL.out _ r1 H1.out Q1.out).mono ?_
        rintro e w2 ⟨u2, rfl, r, b⟩
        replace HL := Lib.hid (HL.out.step b)
        replace HBF := Lib.hid (HBF.out.step b)
        replace HB := Lib.hid (keep2 b HB.out)
        have RA := Lib.hid r
        clear b r
        go_wp2_with fail
        refine (rkeep_e _ l x _ HL.out M2.out _ r1 H1.out Q1.out).mono ?_
        rintro e w3 ⟨u3, rfl, r, b⟩
        replace HL := Lib.hid (HL.out.step b)
        replace HBF := Lib.hid (HBF.out.step b)
        replace HB := Lib.hid (keep2 b HB.out)
        replace RA := Lib.hid (RA.out.step b)
        have RB := Lib.hid r
        clear b r
        go_wp2_with fail
        refine (step_e _ _ l bf x m _ HL.out HBF.out _ r2 H2.out Q2.out).mono ?_
        rintro e w4 ⟨u4, rfl, r, b⟩
        replace HL := Lib.hid (HL.out.step b)
        replace HBF := Lib.hid (HBF.out.step b)
        replace HB := Lib.hid (keep2 b HB.out)
        replace RA := Lib.hid (RA.out.step b)
        replace RB := Lib.hid (RB.out.step b)
        have RC := Lib.hid r
        clear b r
        go_wp2_with fail
        refine (rstep_e _ _ l bf x m _ HL.out HBF.out _ r2 H2.out Q2.out).mono ?_
        rintro e w5 ⟨u5, rfl, r, b⟩
        replace HB := Lib.hid (keep2 b HB.out)
        replace RA := Lib.hid (RA.out.step b)
        replace RB := Lib.hid (RB.out.step b)
        replace RC := Lib.hid (RC.out.step b)
        have RD := Lib.hid r
        clear b r
        go_wp2_with fail
        refine (same_e _ _ _ _ _ RA.out RB.out true (by simp)).mono ?_
        rintro e w6 ⟨rfl, b⟩
        replace HB := Lib.hid (keep2 b HB.out)
        replace RC := Lib.hid (RC.out.step b)
        replace RD := Lib.hid (RD.out.step b)
        clear b
        go_wp2_with fail
        refine (same_e _ _ _ _ _ RC.out RD.out true (by simp)).mono ?_
        rintro e w7 ⟨rfl, b⟩
        replace HB := Lib.hid (keep2 b HB.out)
        clear b
        go_wp2
        go_ret
        exact ⟨by simp, HB.out⟩
  · by_cases c1 : 60 < l.length ∧ l.length ≤ 500
    · have d1 : 60 < (l.length : Int) := by omega
      have d1b : decide (60 < (l.length : Int)) = true := decide_eq_true d1
      have d2 : (l.length : Int) ≤ 500 := by omega
      have d2b : decide ((l.length : Int) ≤ 500) = true := decide_eq_true d2
      clear hm c1
      go_enter Try.func3, Try.ntmps3
      go_wp2_with fail
      refine (head_any _).mono ?_
      rintro e w1 ⟨rfl, b⟩
      have HB := Lib.hid b
      clear b
      go_wp2
      go_ret
      exact ⟨by simp, HB.out⟩
    · by_cases c2 : 600 < l.length
      · have d1 : 60 < (l.length : Int) := by omega
        have d1b : decide (60 < (l.length : Int)) = true := decide_eq_true d1
        have d2 : ¬ ((l.length : Int) ≤ 500) := by omega
        have d2b : decide ((l.length : Int) ≤ 500) = false := decide_eq_false d2
        have d3 : 600 < (l.length : Int) := by omega
        have d3b : decide (600 < (l.length : Int)) = true := decide_eq_true d3
        clear hm c1 c2
        go_enter Try.func3, Try.ntmps3
        go_wp2_with fail
        refine (head_any _).mono ?_
        rintro e w1 ⟨rfl, b⟩
        have HB := Lib.hid b
        clear b
        go_wp2
        go_ret
        exact ⟨by simp, HB.out⟩
      · have e2 : ¬ (600 < (l.length : Int)) := by omega
        have e2b : decide (600 < (l.length : Int)) = false := decide_eq_false e2
        have e3 : 600 < (bf.length : Int) := by omega
        have e3b : decide (600 < (bf.length : Int)) = true := decide_eq_true e3
        by_cases c3 : 60 < l.length
        · have d1 : 60 < (l.length : Int) := by omega
          have d1b : decide (60 < (l.length : Int)) = true := decide_eq_true d1
          have d2 : ¬ ((l.length : Int) ≤ 500) := by omega
          have d2b : decide ((l.length : Int) ≤ 500) = false := decide_eq_false d2
          clear hm c1 c2 c3
          go_enter Try.func3, Try.ntmps3
          go_wp2_with fail
          refine (head_any _).mono ?_
          rintro e w1 ⟨rfl, b⟩
          have HB := Lib.hid b
          clear b
          go_wp2
          go_ret
          exact ⟨by simp, HB.out⟩
        · have d1 : ¬ 60 < (l.length : Int) := by omega
          have d1b : decide (60 < (l.length : Int)) = false := decide_eq_false d1
          clear hm c1 c2 c3
          go_enter Try.func3, Try.ntmps3
          go_wp2_with fail
          refine (head_any _).mono ?_
          rintro e w1 ⟨rfl, b⟩
          have HB := Lib.hid b
          clear b
          go_wp2
          go_ret
          exact ⟨by simp, HB.out⟩
end Go.Proofs.Ytpablikcidlkaaa
