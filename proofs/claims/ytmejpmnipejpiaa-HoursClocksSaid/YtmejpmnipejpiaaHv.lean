/- Law HoursClocks, the walk. -/
import Derived.Test.YtmejpmnipejpiaaHt
namespace Go.Proofs.Ytmejpmnipejpiaa
open Go.RowKit

/-- What law HoursClocks says. -/
theorem clocks_facts {l : List (Int × Int)} {m o : Int} (h : fine l m = true) (h' : fine l o = true) (hd : m - 14000 ≤ o ∧ o ≤ m + 14000) : decide ((cgV l (min m o) (max m o)).length % 2 = 0) = (qui l m == qui l o) := by
  have hf := fine_iff.1 h
  have hf' := fine_iff.1 h'
  obtain ⟨-, e1⟩ := fine_in (x := m) h (by omega) (by omega)
  obtain ⟨-, e2⟩ := fine_in (x := o) h (by omega) (by omega)
  have hc : cgr l (min m o) (max m o) = true := by
    unfold cgr
    rw [hf.1, inR_of (by omega) (by omega), inR_of (by omega) (by omega), decide_eq_true (by omega)]
    rfl
  rw [cgV_yes hc, chs_even, e1, e2]
  by_cases hmo : m ≤ o
  · rw [show min m o + (((max m o - min m o).toNat : Nat) : Int) = o by omega, show min m o = m by omega]
  · rw [show min m o + (((max m o - min m o).toNat : Nat) : Int) = m by omega, show min m o = o by omega]
    cases Qm l o <;> cases Qm l m <;> rfl
set_option maxRecDepth 100000 in
set_option maxHeartbeats 8000000 in
theorem hc_a (v : Value) (l : List (Int × Int)) (m b : Int) (w : World) (h : WinsAt w v l) (b0 : -32768 ≤ b) (b1 : b ≤ 32767) (hf : fine l m = false) : Calls Try.prog 8 #[v, .int .i64 m, .int .i16 b] w fun e w' => e = .returned (.bool true) ∧ Below w.heap.size w w' := by
  have HI0 := Lib.hid h
  obtain ⟨va, vc, rfl, -, hm9, -⟩ := h
  unfold maxLen at hm9
  obtain ⟨o, ho⟩ : ∃ o, wrap64 (m + b.tmod 14001) = o := ⟨_, rfl⟩
  replace hf := Lib.hid hf
  have HB0 := Lib.hid (Below.refl w.heap.size w)
  go_enter Try.func8, Try.ntmps8
  go_wp2_with fail
  refine (head_any _).mono ?_
  rintro e u1 ⟨rfl, b1⟩
  have FL_1 := Lib.hid (HI0.out.step b1)
  clear HI0
  have HB2 := Lib.hid (keep2 b1 HB0.out)
  clear HB0 b1
  go_wp2_with fail
  refine (fine_q _ l m _ hf.out _ FL_1.out).mono ?_
  rintro e u2 ⟨rfl, b2⟩
  have FL_3 := Lib.hid (FL_1.out.step b2)
  clear FL_1
  have HB4 := Lib.hid (keep2 b2 HB2.out)
  clear HB2 b2
  go_wp2
  go_ret
  exact ⟨rfl, HB4.out⟩
set_option maxRecDepth 100000 in
set_option maxHeartbeats 8000000 in
theorem hc_b (v : Value) (l : List (Int × Int)) (m b : Int) (w : World) (h : WinsAt w v l) (b0 : -32768 ≤ b) (b1 : b ≤ 32767) (hf : fine l m = true) (hg : fine l (wrap64 (m + b.tmod 14001)) = false) : Calls Try.prog 8 #[v, .int .i64 m, .int .i16 b] w fun e w' => e = .returned (.bool true) ∧ Below w.heap.size w w' := by
  have HI0 := Lib.hid h
  obtain ⟨va, vc, rfl, -, hm9, -⟩ := h
  unfold maxLen at hm9
  replace hf := Lib.hid hf
  replace hg := Lib.hid hg
  have HB0 := Lib.hid (Below.refl w.heap.size w)
  go_enter Try.func8, Try.ntmps8
  go_wp2_with fail
  refine (head_any _).mono ?_
  rintro e u1 ⟨rfl, b1⟩
  have FL_1 := Lib.hid (HI0.out.step b1)
  clear HI0
  have HB2 := Lib.hid (keep2 b1 HB0.out)
  clear HB0 b1
  go_wp2_with fail
  refine (fine_q _ l m _ hf.out _ FL_1.out).mono ?_
  rintro e u2 ⟨rfl, b2⟩
  have FL_3 := Lib.hid (FL_1.out.step b2)
  clear FL_1
  have HB4 := Lib.hid (keep2 b2 HB2.out)
  clear HB2 b2
  go_wp2_with fail
  refine (fine_q _ l (wrap64 (m + b.tmod 14001)) _ hg.out _ FL_3.out).mono ?_
  rintro e u3 ⟨rfl, b3⟩
  have FL_5 := Lib.hid (FL_3.out.step b3)
  clear FL_3
  have HB6 := Lib.hid (keep2 b3 HB4.out)
  clear HB4 b3
  go_wp2
  go_ret
  exact ⟨rfl, HB6.out⟩
set_option maxRecDepth 100000 in
set_option maxHeartbeats 8000000 in
theorem hc_c (v : Value) (l : List (Int × Int)) (m b : Int) (w : World) (h : WinsAt w v l) (b0 : -32768 ≤ b) (b1 : b ≤ 32767) (hf : fine l m = true) (hg : fine l (wrap64 (m + b.tmod 14001)) = true)  (hcf : decide ((cgV l (min m (wrap64 (m + b.tmod 14001))) (max m (wrap64 (m + b.tmod 14001)))).length % 2 = 0) = (qui l m == qui l (wrap64 (m + b.tmod 14001)))) (hlen : ∀ c, cgV l (min m (wrap64 (m + b.tmod 14001))) (max m (wrap64 (m + b.tmod 14001))) = c → c.length ≤ 1000000) : Calls Try.prog 8 #[v, .int .i64 m, .int .i16 b] w fun e w' => e = .returned (.bool true) ∧ Below w.heap.size w w' := by
  have HI0 := Lib.hid h
  obtain ⟨va, vc, rfl, -, hm9, -⟩ := h
  unfold maxLen at hm9
  obtain ⟨cl, hcl⟩ : ∃ z, cgV l (min m (wrap64 (m + b.tmod 14001))) (max m (wrap64 (m + b.tmod 14001))) = z := ⟨_, rfl⟩
  rw [hcl] at hcf
  obtain ⟨pb, hpb⟩ : ∃ z, decide (cl.length % 2 = 0) = z := ⟨_, rfl⟩
  rw [hpb] at hcf
  obtain ⟨qa, hqa⟩ : ∃ z, qui l m = z := ⟨_, rfl⟩
  obtain ⟨qb, hqb⟩ : ∃ z, qui l (wrap64 (m + b.tmod 14001)) = z := ⟨_, rfl⟩
  rw [hqa, hqb] at hcf
  have e1 : (((cl.length : Int) % 2) == 0) = pb := by rw [← hpb, Bool.eq_iff_iff]; simp; omega
  have e2 : ((cl.length : Int).tmod 2 == 0) = pb := by rw [Int.tmod_eq_emod_of_nonneg (by omega)]; exact e1
  have e3 : cl.length ≤ 1000000 := hlen _ hcl
  clear hlen
  have E1 := Lib.hid e1
  have E2 := Lib.hid e2
  have E3 := Lib.hid e3
  clear e1 e2 e3
  replace hf := Lib.hid hf
  replace hg := Lib.hid hg
  replace hcl := Lib.hid hcl
  replace hpb := Lib.hid hpb
  replace hqa := Lib.hid hqa
  replace hqb := Lib.hid hqb
  cases qa <;> cases qb
  all_goals
    simp only [beq_self_eq_true, show (false == true) = false from rfl, show (true == false) = false from rfl] at hcf
    subst hcf
    have HB0 := Lib.hid (Below.refl w.heap.size w)
    go_enter Try.func8, Try.ntmps8
    go_wp2_with fail
    refine (head_any _).mono ?_
    rintro e u1 ⟨rfl, b1⟩
    have FL_1 := Lib.hid (HI0.out.step b1)
    clear HI0
    have HB2 := Lib.hid (keep2 b1 HB0.out)
    clear HB0 b1
    go_wp2_with fail
    refine (fine_q _ l m _ hf.out _ FL_1.out).mono ?_
    rintro e u2 ⟨rfl, b2⟩
    have FL_3 := Lib.hid (FL_1.out.step b2)
    clear FL_1
    have HB4 := Lib.hid (keep2 b2 HB2.out)
    clear HB2 b2
    go_wp2_with fail
    refine (fine_q _ l (wrap64 (m + b.tmod 14001)) _ hg.out _ FL_3.out).mono ?_
    rintro e u3 ⟨rfl, b3⟩
    have FL_5 := Lib.hid (FL_3.out.step b3)
    clear FL_3
    have HB6 := Lib.hid (keep2 b3 HB4.out)
    clear HB4 b3
    go_wp2_with fail
    refine (cg_q _ l (min m (wrap64 (m + b.tmod 14001))) (max m (wrap64 (m + b.tmod 14001))) _ hcl.out _ FL_5.out).mono ?_
    rintro e u4 ⟨ca, ck, rfl, hc, b4⟩
    have FL_7 := Lib.hid (FL_5.out.step b4)
    clear FL_5
    have HB8 := Lib.hid (keep2 b4 HB6.out)
    clear HB6 b4
    clear hc
    have e1 := E1.out
    have e2 := E2.out
    have e3 := E3.out
    go_wp2_with fail
    refine (quiet_q _ l m _ hqa.out _ FL_7.out).mono ?_
    rintro e u5 ⟨rfl, b5⟩
    have FL_9 := Lib.hid (FL_7.out.step b5)
    clear FL_7
    have HB10 := Lib.hid (keep2 b5 HB8.out)
    clear HB8 b5
    go_wp2_with fail
    refine (quiet_q _ l (wrap64 (m + b.tmod 14001)) _ hqb.out _ FL_9.out).mono ?_
    rintro e u6 ⟨rfl, b6⟩
    have FL_11 := Lib.hid (FL_9.out.step b6)
    clear FL_9
    have HB12 := Lib.hid (keep2 b6 HB10.out)
    clear HB10 b6
    go_wp2
    go_ret
    exact ⟨rfl, HB12.out⟩
theorem cg_len (l : List (Int × Int)) (f t : Int) : (cgV l f t).length ≤ 1000000 := by
  unfold cgV
  split
  · rename_i h
    unfold cgB at h
    simp at h
    have := chs_len (Qm l) f (t - f).toNat
    omega
  · simp
theorem clocks_any (v : Value) (l : List (Int × Int)) (m b : Int) (w : World) (h : WinsAt w v l) (b0 : -32768 ≤ b) (b1 : b ≤ 32767) : Calls Try.prog 8 #[v, .int .i64 m, .int .i16 b] w fun e w' => e = .returned (.bool true) ∧ Below w.heap.size w w' := by
  cases hf : fine l m
  · exact hc_a v l m b w h b0 b1 hf
  · cases hg : fine l (wrap64 (m + b.tmod 14001))
    · exact hc_b v l m b w h b0 b1 hf hg
    · have hb := (fine_iff.1 hf).2
      have hbt : -14001 < b.tmod 14001 ∧ b.tmod 14001 < 14001 := ⟨Int.lt_tmod_of_pos b (by decide), Int.tmod_lt_of_pos b (by decide)⟩
      have hw : (wrap64 (m + b.tmod 14001)) = m + b.tmod 14001 := IntWalk.wrap64_in _ (by omega)
      have hcf := clocks_facts hf hg (by rw [hw]; omega)
      have hlen := fun c (hc : cgV l (min m (wrap64 (m + b.tmod 14001))) (max m (wrap64 (m + b.tmod 14001))) = c) => (by rw [← hc]; exact cg_len _ _ _ : c.length ≤ 1000000)
      exact hc_c v l m b w h b0 b1 hf hg hcf hlen
end Go.Proofs.Ytmejpmnipejpiaa
