import Derived.Test.YteodafhgfcbdpaaUr
namespace Go.Proofs.Yteodafhgfcbdpaa
open Go.RowKit

theorem eq_ch0 (m : Mf) (n : Int) (W : World) : (binOp .eql 24 (.agg #[.int .i64 n, .int .i64 m.c, .int .i64 m.s, .int .i64 m.r, .int .i64 m.t]) (.agg #[.int .i64 m.v, .int .i64 m.c, .int .i64 m.s, .int .i64 m.r, .int .i64 m.t])).run Try.prog W = .ok (.bool (decide (n = m.v))) W := by
  by_cases h : n = m.v
  · subst h; simp [go_sem]
  · simp [go_sem, h]
theorem eq_ch1 (m : Mf) (n : Int) (W : World) : (binOp .eql 24 (.agg #[.int .i64 m.v, .int .i64 n, .int .i64 m.s, .int .i64 m.r, .int .i64 m.t]) (.agg #[.int .i64 m.v, .int .i64 m.c, .int .i64 m.s, .int .i64 m.r, .int .i64 m.t])).run Try.prog W = .ok (.bool (decide (n = m.c))) W := by
  by_cases h : n = m.c
  · subst h; simp [go_sem]
  · simp [go_sem, h]
theorem eq_ch2 (m : Mf) (n : Int) (W : World) : (binOp .eql 24 (.agg #[.int .i64 m.v, .int .i64 m.c, .int .i64 n, .int .i64 m.r, .int .i64 m.t]) (.agg #[.int .i64 m.v, .int .i64 m.c, .int .i64 m.s, .int .i64 m.r, .int .i64 m.t])).run Try.prog W = .ok (.bool (decide (n = m.s))) W := by
  by_cases h : n = m.s
  · subst h; simp [go_sem]
  · simp [go_sem, h]
theorem eq_ch3 (m : Mf) (n : Int) (W : World) : (binOp .eql 24 (.agg #[.int .i64 m.v, .int .i64 m.c, .int .i64 m.s, .int .i64 n, .int .i64 m.t]) (.agg #[.int .i64 m.v, .int .i64 m.c, .int .i64 m.s, .int .i64 m.r, .int .i64 m.t])).run Try.prog W = .ok (.bool (decide (n = m.r))) W := by
  by_cases h : n = m.r
  · subst h; simp [go_sem]
  · simp [go_sem, h]
theorem eq_ch4 (m : Mf) (n : Int) (W : World) : (binOp .eql 24 (.agg #[.int .i64 m.v, .int .i64 m.c, .int .i64 m.s, .int .i64 m.r, .int .i64 n]) (.agg #[.int .i64 m.v, .int .i64 m.c, .int .i64 m.s, .int .i64 m.r, .int .i64 m.t])).run Try.prog W = .ok (.bool (decide (n = m.t))) W := by
  by_cases h : n = m.t
  · subst h; simp [go_sem]
  · simp [go_sem, h]
set_option maxRecDepth 100000 in
set_option maxHeartbeats 8000000 in
theorem man_long (key ver s : Int) (v : Value) (D : List Int) (other x number : Int) (w : World) (h : IntsAt w v D) (hcp : ∀ a n c, v = .slice a n c → n ≤ c) (_ : 0 ≤ x) (_ : x ≤ 255) (hL : 200 < D.length) : Calls Try.prog 6 #[.int .i64 key, .int .i64 ver, .int .i64 s, v, .int .i64 other, .int .u8 x, .int .i64 number] w fun e w' => e = .returned (.bool true) ∧ Below w.heap.size w w' := by
  have H0 := Lib.hid (Below.refl w.heap.size w)
  have H1 := Lib.hid (h)
  replace hL := Lib.hid hL
  obtain ⟨va, vc, rfl, hm, -⟩ := h
  unfold maxLen at hm
  replace hm := Lib.hid hm
  replace hcp := Lib.hid (hcp _ _ _ rfl)
  go_enter Try.func6, Try.ntmps6
  go_wp2_with fail
  refine (head_any _).mono ?_
  rintro e u1 ⟨rfl, b1⟩
  have H2 := Lib.hid (H1.out.step b1)
  clear H1
  have H3 := Lib.hid (keep2 b1 H0.out)
  clear H0
  clear b1
  go_wp2_with fail
  obtain ⟨E, hE⟩ : ∃ z, spE key ver s D = z := ⟨_, rfl⟩
  replace hE := Lib.hid hE
  obtain ⟨M, hM⟩ : ∃ z, spM key ver s D E = z := ⟨_, rfl⟩
  obtain ⟨l, hl⟩ : ∃ z, spL s D E = z := ⟨_, rfl⟩
  replace hM := Lib.hid hM
  replace hl := Lib.hid hl
  refine (split_any key ver s va vc D _ H2.out (by have := hm.out; omega) hcp.out hE.out hM.out hl.out).mono ?_
  rintro e u2 ⟨pv, rfl, hu, b2⟩
  have H4 := Lib.hid (H2.out.step b2)
  clear H2
  have H5 := Lib.hid (keep2 b2 H3.out)
  clear H3
  clear b2
  obtain ⟨ua, uc, rfl, -, -⟩ : ∃ (a : Option Addr) (c : Nat), pv = .slice a l.length c ∧ True ∧ True := by
    obtain ⟨a, c, e, -⟩ := hu
    exact ⟨a, c, e, trivial, trivial⟩
  have H6 := Lib.hid (hu)
  clear hu
  have H7 := Lib.hid (H4.out.step (al u2 (.cells #[.int .i64 M.v, .int .i64 M.c, .int .i64 M.s, .int .i64 M.r, .int .i64 M.t] 24)))
  clear H4
  have H8 := Lib.hid (H6.out.step (al u2 (.cells #[.int .i64 M.v, .int .i64 M.c, .int .i64 M.s, .int .i64 M.r, .int .i64 M.t] 24)))
  clear H6
  have H9 := Lib.hid (keep2 (al u2 (.cells #[.int .i64 M.v, .int .i64 M.c, .int .i64 M.s, .int .i64 M.r, .int .i64 M.t] 24)) H5.out)
  clear H5
  have H10 := Lib.hid (Cs.new u2 (u2.heap.size) #[.int .i64 M.v, .int .i64 M.c, .int .i64 M.s, .int .i64 M.r, .int .i64 M.t] 24 (by simp))
  have xm0 : (u2.alloc (.cells #[.int .i64 M.v, .int .i64 M.c, .int .i64 M.s, .int .i64 M.r, .int .i64 M.t] 24)).cell? ⟨(u2.heap.size), 0, none⟩ = some (.int .i64 M.v) := H10.out.c 0 rfl
  have xm1 : (u2.alloc (.cells #[.int .i64 M.v, .int .i64 M.c, .int .i64 M.s, .int .i64 M.r, .int .i64 M.t] 24)).cell? ⟨(u2.heap.size), 1, none⟩ = some (.int .i64 M.c) := H10.out.c 1 rfl
  have xm2 : (u2.alloc (.cells #[.int .i64 M.v, .int .i64 M.c, .int .i64 M.s, .int .i64 M.r, .int .i64 M.t] 24)).cell? ⟨(u2.heap.size), 2, none⟩ = some (.int .i64 M.s) := H10.out.c 2 rfl
  have xm3 : (u2.alloc (.cells #[.int .i64 M.v, .int .i64 M.c, .int .i64 M.s, .int .i64 M.r, .int .i64 M.t] 24)).cell? ⟨(u2.heap.size), 3, none⟩ = some (.int .i64 M.r) := H10.out.c 3 rfl
  have xm4 : (u2.alloc (.cells #[.int .i64 M.v, .int .i64 M.c, .int .i64 M.s, .int .i64 M.r, .int .i64 M.t] 24)).cell? ⟨(u2.heap.size), 4, none⟩ = some (.int .i64 M.t) := H10.out.c 4 rfl
  have zm : (u2.heap.size) < (u2.alloc (.cells #[.int .i64 M.v, .int .i64 M.c, .int .i64 M.s, .int .i64 M.r, .int .i64 M.t] 24)).heap.size := H10.out.2.2
  have g1 : decide ((D.length : Int) > 200) = true := by simp; have := hL.out; omega
  have g1b : decide ((200 : Int) < (D.length : Int)) = true := by simp; have := hL.out; omega
  go_wp2
  go_ret
  exact ⟨rfl, H9.out⟩
set_option maxRecDepth 100000 in
set_option maxHeartbeats 8000000 in
theorem man_bad (key ver s : Int) (v : Value) (D : List Int) (other x number : Int) (w : World) (h : IntsAt w v D) (hcp : ∀ a n c, v = .slice a n c → n ≤ c) (_ : 0 ≤ x) (_ : x ≤ 255) (hL : D.length ≤ 200) (hN : spE key ver s D ≠ 0) : Calls Try.prog 6 #[.int .i64 key, .int .i64 ver, .int .i64 s, v, .int .i64 other, .int .u8 x, .int .i64 number] w fun e w' => e = .returned (.bool true) ∧ Below w.heap.size w w' := by
  have H0 := Lib.hid (Below.refl w.heap.size w)
  have H1 := Lib.hid (h)
  replace hL := Lib.hid hL
  replace hN := Lib.hid hN
  obtain ⟨va, vc, rfl, hm, -⟩ := h
  unfold maxLen at hm
  replace hm := Lib.hid hm
  replace hcp := Lib.hid (hcp _ _ _ rfl)
  go_enter Try.func6, Try.ntmps6
  go_wp2_with fail
  refine (head_any _).mono ?_
  rintro e u1 ⟨rfl, b1⟩
  have H2 := Lib.hid (H1.out.step b1)
  clear H1
  have H3 := Lib.hid (keep2 b1 H0.out)
  clear H0
  clear b1
  go_wp2_with fail
  obtain ⟨E, hE⟩ : ∃ z, spE key ver s D = z := ⟨_, rfl⟩
  replace hE := Lib.hid hE
  obtain ⟨M, hM⟩ : ∃ z, spM key ver s D E = z := ⟨_, rfl⟩
  obtain ⟨l, hl⟩ : ∃ z, spL s D E = z := ⟨_, rfl⟩
  replace hM := Lib.hid hM
  replace hl := Lib.hid hl
  refine (split_any key ver s va vc D _ H2.out (by have := hm.out; omega) hcp.out hE.out hM.out hl.out).mono ?_
  rintro e u2 ⟨pv, rfl, hu, b2⟩
  have H4 := Lib.hid (H2.out.step b2)
  clear H2
  have H5 := Lib.hid (keep2 b2 H3.out)
  clear H3
  clear b2
  obtain ⟨ua, uc, rfl, -, -⟩ : ∃ (a : Option Addr) (c : Nat), pv = .slice a l.length c ∧ True ∧ True := by
    obtain ⟨a, c, e, -⟩ := hu
    exact ⟨a, c, e, trivial, trivial⟩
  have H6 := Lib.hid (hu)
  clear hu
  have H7 := Lib.hid (H4.out.step (al u2 (.cells #[.int .i64 M.v, .int .i64 M.c, .int .i64 M.s, .int .i64 M.r, .int .i64 M.t] 24)))
  clear H4
  have H8 := Lib.hid (H6.out.step (al u2 (.cells #[.int .i64 M.v, .int .i64 M.c, .int .i64 M.s, .int .i64 M.r, .int .i64 M.t] 24)))
  clear H6
  have H9 := Lib.hid (keep2 (al u2 (.cells #[.int .i64 M.v, .int .i64 M.c, .int .i64 M.s, .int .i64 M.r, .int .i64 M.t] 24)) H5.out)
  clear H5
  have H10 := Lib.hid (Cs.new u2 (u2.heap.size) #[.int .i64 M.v, .int .i64 M.c, .int .i64 M.s, .int .i64 M.r, .int .i64 M.t] 24 (by simp))
  have xm0 : (u2.alloc (.cells #[.int .i64 M.v, .int .i64 M.c, .int .i64 M.s, .int .i64 M.r, .int .i64 M.t] 24)).cell? ⟨(u2.heap.size), 0, none⟩ = some (.int .i64 M.v) := H10.out.c 0 rfl
  have xm1 : (u2.alloc (.cells #[.int .i64 M.v, .int .i64 M.c, .int .i64 M.s, .int .i64 M.r, .int .i64 M.t] 24)).cell? ⟨(u2.heap.size), 1, none⟩ = some (.int .i64 M.c) := H10.out.c 1 rfl
  have xm2 : (u2.alloc (.cells #[.int .i64 M.v, .int .i64 M.c, .int .i64 M.s, .int .i64 M.r, .int .i64 M.t] 24)).cell? ⟨(u2.heap.size), 2, none⟩ = some (.int .i64 M.s) := H10.out.c 2 rfl
  have xm3 : (u2.alloc (.cells #[.int .i64 M.v, .int .i64 M.c, .int .i64 M.s, .int .i64 M.r, .int .i64 M.t] 24)).cell? ⟨(u2.heap.size), 3, none⟩ = some (.int .i64 M.r) := H10.out.c 3 rfl
  have xm4 : (u2.alloc (.cells #[.int .i64 M.v, .int .i64 M.c, .int .i64 M.s, .int .i64 M.r, .int .i64 M.t] 24)).cell? ⟨(u2.heap.size), 4, none⟩ = some (.int .i64 M.t) := H10.out.c 4 rfl
  have zm : (u2.heap.size) < (u2.alloc (.cells #[.int .i64 M.v, .int .i64 M.c, .int .i64 M.s, .int .i64 M.r, .int .i64 M.t] 24)).heap.size := H10.out.2.2
  have HN := Lib.hid (show ¬ E = 0 from fun q => hN.out (hE.out.trans q))
  have g1 : decide ((D.length : Int) > 200) = false := by simp; have := hL.out; omega
  have g1b : decide ((200 : Int) < (D.length : Int)) = false := by simp; have := hL.out; omega
  have e1 : (E == 0) = false := by simpa using HN.out
  have e2 : (E = 0) = False := by simpa using HN.out
  have e3 : ¬ E = 0 := HN.out
  have e4 : (E != 0) = true := by simpa using HN.out
  go_wp2
  go_ret
  exact ⟨rfl, H9.out⟩
set_option maxRecDepth 100000 in
set_option maxHeartbeats 8000000 in
theorem man_0 (key ver s : Int) (v : Value) (D : List Int) (other x number : Int) (w : World) (h : IntsAt w v D) (hcp : ∀ a n c, v = .slice a n c → n ≤ c) (hx0 : 0 ≤ x) (hx1 : x ≤ 255) (hL : D.length ≤ 200) (hE : spE key ver s D = 0) (hK : x.tmod 5 = 0) : Calls Try.prog 6 #[.int .i64 key, .int .i64 ver, .int .i64 s, v, .int .i64 other, .int .u8 x, .int .i64 number] w fun e w' => e = .returned (.bool true) ∧ Below w.heap.size w w' := by
  have H0 := Lib.hid (Below.refl w.heap.size w)
  have H1 := Lib.hid (h)
  replace hL := Lib.hid hL
  replace hE := Lib.hid hE
  replace hK := Lib.hid hK
  obtain ⟨va, vc, rfl, hm, -⟩ := h
  unfold maxLen at hm
  replace hm := Lib.hid hm
  replace hcp := Lib.hid (hcp _ _ _ rfl)
  go_enter Try.func6, Try.ntmps6
  go_wp2_with fail
  refine (head_any _).mono ?_
  rintro e u1 ⟨rfl, b1⟩
  have H2 := Lib.hid (H1.out.step b1)
  clear H1
  have H3 := Lib.hid (keep2 b1 H0.out)
  clear H0
  clear b1
  go_wp2_with fail
  obtain ⟨M, hM⟩ : ∃ z, spM key ver s D 0 = z := ⟨_, rfl⟩
  obtain ⟨l, hl⟩ : ∃ z, spL s D 0 = z := ⟨_, rfl⟩
  replace hM := Lib.hid hM
  replace hl := Lib.hid hl
  refine (split_any key ver s va vc D _ H2.out (by have := hm.out; omega) hcp.out hE.out hM.out hl.out).mono ?_
  rintro e u2 ⟨pv, rfl, hu, b2⟩
  have H4 := Lib.hid (H2.out.step b2)
  clear H2
  have H5 := Lib.hid (keep2 b2 H3.out)
  clear H3
  clear b2
  obtain ⟨ua, uc, rfl, -, -⟩ : ∃ (a : Option Addr) (c : Nat), pv = .slice a l.length c ∧ True ∧ True := by
    obtain ⟨a, c, e, -⟩ := hu
    exact ⟨a, c, e, trivial, trivial⟩
  have H6 := Lib.hid (hu)
  clear hu
  have H7 := Lib.hid (H4.out.step (al u2 (.cells #[.int .i64 M.v, .int .i64 M.c, .int .i64 M.s, .int .i64 M.r, .int .i64 M.t] 24)))
  clear H4
  have H8 := Lib.hid (H6.out.step (al u2 (.cells #[.int .i64 M.v, .int .i64 M.c, .int .i64 M.s, .int .i64 M.r, .int .i64 M.t] 24)))
  clear H6
  have H9 := Lib.hid (keep2 (al u2 (.cells #[.int .i64 M.v, .int .i64 M.c, .int .i64 M.s, .int .i64 M.r, .int .i64 M.t] 24)) H5.out)
  clear H5
  have H10 := Lib.hid (Cs.new u2 (u2.heap.size) #[.int .i64 M.v, .int .i64 M.c, .int .i64 M.s, .int .i64 M.r, .int .i64 M.t] 24 (by simp))
  have xm0 : (u2.alloc (.cells #[.int .i64 M.v, .int .i64 M.c, .int .i64 M.s, .int .i64 M.r, .int .i64 M.t] 24)).cell? ⟨(u2.heap.size), 0, none⟩ = some (.int .i64 M.v) := H10.out.c 0 rfl
  have xm1 : (u2.alloc (.cells #[.int .i64 M.v, .int .i64 M.c, .int .i64 M.s, .int .i64 M.r, .int .i64 M.t] 24)).cell? ⟨(u2.heap.size), 1, none⟩ = some (.int .i64 M.c) := H10.out.c 1 rfl
  have xm2 : (u2.alloc (.cells #[.int .i64 M.v, .int .i64 M.c, .int .i64 M.s, .int .i64 M.r, .int .i64 M.t] 24)).cell? ⟨(u2.heap.size), 2, none⟩ = some (.int .i64 M.s) := H10.out.c 2 rfl
  have xm3 : (u2.alloc (.cells #[.int .i64 M.v, .int .i64 M.c, .int .i64 M.s, .int .i64 M.r, .int .i64 M.t] 24)).cell? ⟨(u2.heap.size), 3, none⟩ = some (.int .i64 M.r) := H10.out.c 3 rfl
  have xm4 : (u2.alloc (.cells #[.int .i64 M.v, .int .i64 M.c, .int .i64 M.s, .int .i64 M.r, .int .i64 M.t] 24)).cell? ⟨(u2.heap.size), 4, none⟩ = some (.int .i64 M.t) := H10.out.c 4 rfl
  have zm : (u2.heap.size) < (u2.alloc (.cells #[.int .i64 M.v, .int .i64 M.c, .int .i64 M.s, .int .i64 M.r, .int .i64 M.t] 24)).heap.size := H10.out.2.2
  have g1 : decide ((D.length : Int) > 200) = false := by simp; have := hL.out; omega
  have g1b : decide ((200 : Int) < (D.length : Int)) = false := by simp; have := hL.out; omega
  go_wp2_with fail
  obtain ⟨B1, hB1⟩ : ∃ b, decide (other = key) = b := ⟨_, rfl⟩
  obtain ⟨E1, hE1⟩ : ∃ z, bgE other 0 M = z := ⟨_, rfl⟩
  obtain ⟨M1, hM1⟩ : ∃ z, bgM E1 M = z := ⟨_, rfl⟩
  obtain ⟨L1, hL1⟩ : ∃ z, bgL E1 M = z := ⟨_, rfl⟩
  have HE1 := Lib.hid (show E1 = 0 ↔ other = key by rw [← hE1, ← hM.out]; exact bg_other hE.out)
  replace hB1 := Lib.hid hB1
  refine (begin_any other 0 M hE1 hM1 hL1 _).mono ?_
  rintro e u3 ⟨sv, rfl, hu2, b3⟩
  clear xm0 xm1 xm2 xm3 xm4 zm
  have H11 := Lib.hid (H7.out.step b3)
  clear H7
  have H12 := Lib.hid (H8.out.step b3)
  clear H8
  have H13 := Lib.hid (H10.out.step b3)
  clear H10
  have H14 := Lib.hid (keep2 b3 H9.out)
  clear H9
  clear b3
  clear hE1 hM1 hL1
  have HS9 := Lib.hid (H14.out.size)
  have HS8 := Lib.hid (H13.out.2.2)
  obtain ⟨n1, uba, ubc, rfl, -⟩ : ∃ (n : Nat) (a : Option Addr) (c : Nat), sv = .slice a n c ∧ True := by
    obtain ⟨a, c, e, -⟩ := hu2
    exact ⟨_, a, c, e, trivial⟩
  clear hu2
  have H15 := Lib.hid (H11.out.step (al u3 (.cells #[.int .i64 M1.v, .int .i64 M1.c, .int .i64 M1.s, .int .i64 M1.r, .int .i64 M1.t, .slice uba n1 ubc] 27)))
  clear H11
  have H16 := Lib.hid (H12.out.step (al u3 (.cells #[.int .i64 M1.v, .int .i64 M1.c, .int .i64 M1.s, .int .i64 M1.r, .int .i64 M1.t, .slice uba n1 ubc] 27)))
  clear H12
  have H17 := Lib.hid (H13.out.step (al u3 (.cells #[.int .i64 M1.v, .int .i64 M1.c, .int .i64 M1.s, .int .i64 M1.r, .int .i64 M1.t, .slice uba n1 ubc] 27)))
  clear H13
  have H18 := Lib.hid (keep2 (al u3 (.cells #[.int .i64 M1.v, .int .i64 M1.c, .int .i64 M1.s, .int .i64 M1.r, .int .i64 M1.t, .slice uba n1 ubc] 27)) H14.out)
  clear H14
  have H19 := Lib.hid (Cs.new u3 (u3.heap.size) #[.int .i64 M1.v, .int .i64 M1.c, .int .i64 M1.s, .int .i64 M1.r, .int .i64 M1.t, .slice uba n1 ubc] 27 (by simp))
  have xpm0 : (u3.alloc (.cells #[.int .i64 M1.v, .int .i64 M1.c, .int .i64 M1.s, .int .i64 M1.r, .int .i64 M1.t, .slice uba n1 ubc] 27)).cell? ⟨(u2.heap.size), 0, none⟩ = some (.int .i64 M.v) := H17.out.c 0 rfl
  have xpm1 : (u3.alloc (.cells #[.int .i64 M1.v, .int .i64 M1.c, .int .i64 M1.s, .int .i64 M1.r, .int .i64 M1.t, .slice uba n1 ubc] 27)).cell? ⟨(u2.heap.size), 1, none⟩ = some (.int .i64 M.c) := H17.out.c 1 rfl
  have xpm2 : (u3.alloc (.cells #[.int .i64 M1.v, .int .i64 M1.c, .int .i64 M1.s, .int .i64 M1.r, .int .i64 M1.t, .slice uba n1 ubc] 27)).cell? ⟨(u2.heap.size), 2, none⟩ = some (.int .i64 M.s) := H17.out.c 2 rfl
  have xpm3 : (u3.alloc (.cells #[.int .i64 M1.v, .int .i64 M1.c, .int .i64 M1.s, .int .i64 M1.r, .int .i64 M1.t, .slice uba n1 ubc] 27)).cell? ⟨(u2.heap.size), 3, none⟩ = some (.int .i64 M.r) := H17.out.c 3 rfl
  have xpm4 : (u3.alloc (.cells #[.int .i64 M1.v, .int .i64 M1.c, .int .i64 M1.s, .int .i64 M1.r, .int .i64 M1.t, .slice uba n1 ubc] 27)).cell? ⟨(u2.heap.size), 4, none⟩ = some (.int .i64 M.t) := H17.out.c 4 rfl
  have zpm : (u2.heap.size) < (u3.alloc (.cells #[.int .i64 M1.v, .int .i64 M1.c, .int .i64 M1.s, .int .i64 M1.r, .int .i64 M1.t, .slice uba n1 ubc] 27)).heap.size := H17.out.2.2
  have q1 := H17.out.step (al (u3.alloc (.cells #[.int .i64 M1.v, .int .i64 M1.c, .int .i64 M1.s, .int .i64 M1.r, .int .i64 M1.t, .slice uba n1 ubc] 27)) (.cells #[.int .i64 M.v, .int .i64 M.c, .int .i64 M.s, .int .i64 M.r, .int .i64 M.t] 24))
  have q2 := Cs.new (u3.alloc (.cells #[.int .i64 M1.v, .int .i64 M1.c, .int .i64 M1.s, .int .i64 M1.r, .int .i64 M1.t, .slice uba n1 ubc] 27)) (u3.heap.size + 1) #[.int .i64 M.v, .int .i64 M.c, .int .i64 M.s, .int .i64 M.r, .int .i64 M.t] 24 (by simp)
  have x0 : ((u3.alloc (.cells #[.int .i64 M1.v, .int .i64 M1.c, .int .i64 M1.s, .int .i64 M1.r, .int .i64 M1.t, .slice uba n1 ubc] 27)).alloc (.cells #[.int .i64 M.v, .int .i64 M.c, .int .i64 M.s, .int .i64 M.r, .int .i64 M.t] 24)).cell? ⟨(u2.heap.size), 0, none⟩ = some (.int .i64 M.v) := q1.c 0 rfl
  have z0 : ((u3.alloc (.cells #[.int .i64 M1.v, .int .i64 M1.c, .int .i64 M1.s, .int .i64 M1.r, .int .i64 M1.t, .slice uba n1 ubc] 27)).alloc (.cells #[.int .i64 M.v, .int .i64 M.c, .int .i64 M.s, .int .i64 M.r, .int .i64 M.t] 24)).cell? ⟨(u3.heap.size + 1), 0, none⟩ = some (.int .i64 M.v) := q2.c 0 rfl
  have y0 : ((u3.alloc (.cells #[.int .i64 M1.v, .int .i64 M1.c, .int .i64 M1.s, .int .i64 M1.r, .int .i64 M1.t, .slice uba n1 ubc] 27)).alloc (.cells #[.int .i64 M.v, .int .i64 M.c, .int .i64 M.s, .int .i64 M.r, .int .i64 M.t] 24)).frozen? ⟨(u3.heap.size + 1), 0, none⟩ = false := q2.f 0 (by simp)
  have x1 : ((u3.alloc (.cells #[.int .i64 M1.v, .int .i64 M1.c, .int .i64 M1.s, .int .i64 M1.r, .int .i64 M1.t, .slice uba n1 ubc] 27)).alloc (.cells #[.int .i64 M.v, .int .i64 M.c, .int .i64 M.s, .int .i64 M.r, .int .i64 M.t] 24)).cell? ⟨(u2.heap.size), 1, none⟩ = some (.int .i64 M.c) := q1.c 1 rfl
  have z1 : ((u3.alloc (.cells #[.int .i64 M1.v, .int .i64 M1.c, .int .i64 M1.s, .int .i64 M1.r, .int .i64 M1.t, .slice uba n1 ubc] 27)).alloc (.cells #[.int .i64 M.v, .int .i64 M.c, .int .i64 M.s, .int .i64 M.r, .int .i64 M.t] 24)).cell? ⟨(u3.heap.size + 1), 1, none⟩ = some (.int .i64 M.c) := q2.c 1 rfl
  have y1 : ((u3.alloc (.cells #[.int .i64 M1.v, .int .i64 M1.c, .int .i64 M1.s, .int .i64 M1.r, .int .i64 M1.t, .slice uba n1 ubc] 27)).alloc (.cells #[.int .i64 M.v, .int .i64 M.c, .int .i64 M.s, .int .i64 M.r, .int .i64 M.t] 24)).frozen? ⟨(u3.heap.size + 1), 1, none⟩ = false := q2.f 1 (by simp)
  have x2 : ((u3.alloc (.cells #[.int .i64 M1.v, .int .i64 M1.c, .int .i64 M1.s, .int .i64 M1.r, .int .i64 M1.t, .slice uba n1 ubc] 27)).alloc (.cells #[.int .i64 M.v, .int .i64 M.c, .int .i64 M.s, .int .i64 M.r, .int .i64 M.t] 24)).cell? ⟨(u2.heap.size), 2, none⟩ = some (.int .i64 M.s) := q1.c 2 rfl
  have z2 : ((u3.alloc (.cells #[.int .i64 M1.v, .int .i64 M1.c, .int .i64 M1.s, .int .i64 M1.r, .int .i64 M1.t, .slice uba n1 ubc] 27)).alloc (.cells #[.int .i64 M.v, .int .i64 M.c, .int .i64 M.s, .int .i64 M.r, .int .i64 M.t] 24)).cell? ⟨(u3.heap.size + 1), 2, none⟩ = some (.int .i64 M.s) := q2.c 2 rfl
  have y2 : ((u3.alloc (.cells #[.int .i64 M1.v, .int .i64 M1.c, .int .i64 M1.s, .int .i64 M1.r, .int .i64 M1.t, .slice uba n1 ubc] 27)).alloc (.cells #[.int .i64 M.v, .int .i64 M.c, .int .i64 M.s, .int .i64 M.r, .int .i64 M.t] 24)).frozen? ⟨(u3.heap.size + 1), 2, none⟩ = false := q2.f 2 (by simp)
  have x3 : ((u3.alloc (.cells #[.int .i64 M1.v, .int .i64 M1.c, .int .i64 M1.s, .int .i64 M1.r, .int .i64 M1.t, .slice uba n1 ubc] 27)).alloc (.cells #[.int .i64 M.v, .int .i64 M.c, .int .i64 M.s, .int .i64 M.r, .int .i64 M.t] 24)).cell? ⟨(u2.heap.size), 3, none⟩ = some (.int .i64 M.r) := q1.c 3 rfl
  have z3 : ((u3.alloc (.cells #[.int .i64 M1.v, .int .i64 M1.c, .int .i64 M1.s, .int .i64 M1.r, .int .i64 M1.t, .slice uba n1 ubc] 27)).alloc (.cells #[.int .i64 M.v, .int .i64 M.c, .int .i64 M.s, .int .i64 M.r, .int .i64 M.t] 24)).cell? ⟨(u3.heap.size + 1), 3, none⟩ = some (.int .i64 M.r) := q2.c 3 rfl
  have y3 : ((u3.alloc (.cells #[.int .i64 M1.v, .int .i64 M1.c, .int .i64 M1.s, .int .i64 M1.r, .int .i64 M1.t, .slice uba n1 ubc] 27)).alloc (.cells #[.int .i64 M.v, .int .i64 M.c, .int .i64 M.s, .int .i64 M.r, .int .i64 M.t] 24)).frozen? ⟨(u3.heap.size + 1), 3, none⟩ = false := q2.f 3 (by simp)
  have x4 : ((u3.alloc (.cells #[.int .i64 M1.v, .int .i64 M1.c, .int .i64 M1.s, .int .i64 M1.r, .int .i64 M1.t, .slice uba n1 ubc] 27)).alloc (.cells #[.int .i64 M.v, .int .i64 M.c, .int .i64 M.s, .int .i64 M.r, .int .i64 M.t] 24)).cell? ⟨(u2.heap.size), 4, none⟩ = some (.int .i64 M.t) := q1.c 4 rfl
  have z4 : ((u3.alloc (.cells #[.int .i64 M1.v, .int .i64 M1.c, .int .i64 M1.s, .int .i64 M1.r, .int .i64 M1.t, .slice uba n1 ubc] 27)).alloc (.cells #[.int .i64 M.v, .int .i64 M.c, .int .i64 M.s, .int .i64 M.r, .int .i64 M.t] 24)).cell? ⟨(u3.heap.size + 1), 4, none⟩ = some (.int .i64 M.t) := q2.c 4 rfl
  have y4 : ((u3.alloc (.cells #[.int .i64 M1.v, .int .i64 M1.c, .int .i64 M1.s, .int .i64 M1.r, .int .i64 M1.t, .slice uba n1 ubc] 27)).alloc (.cells #[.int .i64 M.v, .int .i64 M.c, .int .i64 M.s, .int .i64 M.r, .int .i64 M.t] 24)).frozen? ⟨(u3.heap.size + 1), 4, none⟩ = false := q2.f 4 (by simp)
  have xz := q1.2.2
  have yz := q2.2.2
  clear q1 q2
  have t1 : IntKind.i64.wrap x = x := IntWalk.i64_in _ (by omega)
  have t2 : wrap64 x = x := IntWalk.wrap64_in _ (by omega)
  have t3 : x.tmod 5 = 0 := hK.out
  have t4 : wrap64 (x.tmod 5) = 0 := by rw [hK.out]; exact IntWalk.wrap64_in _ (by omega)
  have t5 : IntKind.i64.wrap (x.tmod 5) = 0 := by rw [hK.out]; exact IntWalk.i64_in _ (by omega)
  go_wp2_with fail
  clear xpm0 xpm1 xpm2 xpm3 xpm4 zpm x0 y0 z0 x1 y1 z1 x2 y2 z2 x3 y3 z3 x4 y4 z4 xz yz
  have H20 := Lib.hid (H15.out.step (al (u3.alloc (.cells #[.int .i64 M1.v, .int .i64 M1.c, .int .i64 M1.s, .int .i64 M1.r, .int .i64 M1.t, .slice uba n1 ubc] 27)) (.cells #[.int .i64 number, .int .i64 M.c, .int .i64 M.s, .int .i64 M.r, .int .i64 M.t] 24)))
  clear H15
  have H21 := Lib.hid (H16.out.step (al (u3.alloc (.cells #[.int .i64 M1.v, .int .i64 M1.c, .int .i64 M1.s, .int .i64 M1.r, .int .i64 M1.t, .slice uba n1 ubc] 27)) (.cells #[.int .i64 number, .int .i64 M.c, .int .i64 M.s, .int .i64 M.r, .int .i64 M.t] 24)))
  clear H16
  have H22 := Lib.hid (H17.out.step (al (u3.alloc (.cells #[.int .i64 M1.v, .int .i64 M1.c, .int .i64 M1.s, .int .i64 M1.r, .int .i64 M1.t, .slice uba n1 ubc] 27)) (.cells #[.int .i64 number, .int .i64 M.c, .int .i64 M.s, .int .i64 M.r, .int .i64 M.t] 24)))
  clear H17
  have H23 := Lib.hid (H19.out.step (al (u3.alloc (.cells #[.int .i64 M1.v, .int .i64 M1.c, .int .i64 M1.s, .int .i64 M1.r, .int .i64 M1.t, .slice uba n1 ubc] 27)) (.cells #[.int .i64 number, .int .i64 M.c, .int .i64 M.s, .int .i64 M.r, .int .i64 M.t] 24)))
  clear H19
  have H24 := Lib.hid (keep2 (al (u3.alloc (.cells #[.int .i64 M1.v, .int .i64 M1.c, .int .i64 M1.s, .int .i64 M1.r, .int .i64 M1.t, .slice uba n1 ubc] 27)) (.cells #[.int .i64 number, .int .i64 M.c, .int .i64 M.s, .int .i64 M.r, .int .i64 M.t] 24)) H18.out)
  clear H18
  have H25 := Lib.hid (Cs.new (u3.alloc (.cells #[.int .i64 M1.v, .int .i64 M1.c, .int .i64 M1.s, .int .i64 M1.r, .int .i64 M1.t, .slice uba n1 ubc] 27)) (u3.heap.size + 1) #[.int .i64 number, .int .i64 M.c, .int .i64 M.s, .int .i64 M.r, .int .i64 M.t] 24 (by simp))
  clear t1 t2 t3 t4 t5
  obtain ⟨MX, hMX⟩ : ∃ z, chM 0 number M = z := ⟨_, rfl⟩
  obtain ⟨E2, hE2⟩ : ∃ z, bgE key 0 (chM 0 number M) = z := ⟨_, rfl⟩
  obtain ⟨M2, hM2⟩ : ∃ z, bgM E2 (chM 0 number M) = z := ⟨_, rfl⟩
  obtain ⟨L2, hL2⟩ : ∃ z, bgL E2 (chM 0 number M) = z := ⟨_, rfl⟩
  clear hMX MX
  obtain ⟨B2, hB2⟩ : ∃ b, decide (number = M.v) = b := ⟨_, rfl⟩
  have HE2 := Lib.hid (show E2 = 0 ↔ number = M.v by rw [← hE2, ← hM.out]; exact bg_changed hE.out 0)
  replace hB2 := Lib.hid hB2
  have HL2 := Lib.hid (show E2 ≠ 0 → L2 = [] from fun q => by rw [← hL2]; exact if_neg q)
  refine (begin_any key 0 (chM 0 number M) hE2 hM2 hL2 _).mono ?_
  rintro e u4 ⟨sw, rfl, hu3, b4⟩
  have H26 := Lib.hid (H20.out.step b4)
  clear H20
  have H27 := Lib.hid (H21.out.step b4)
  clear H21
  have H28 := Lib.hid (H22.out.step b4)
  clear H22
  have H29 := Lib.hid (H23.out.step b4)
  clear H23
  have H30 := Lib.hid (H25.out.step b4)
  clear H25
  have H31 := Lib.hid (keep2 b4 H24.out)
  clear H24
  clear b4
  clear hE2 hM2 hL2
  obtain ⟨n2, wba, wbc, rfl, hn2⟩ : ∃ (n : Nat) (a : Option Addr) (c : Nat), sw = .slice a n c ∧ n = L2.length := by
    obtain ⟨a, c, e, -⟩ := hu3
    exact ⟨_, a, c, e, rfl⟩
  clear hu3
  replace hn2 := Lib.hid hn2
  have H32 := Lib.hid (H26.out.step (al u4 (.cells #[.int .i64 M2.v, .int .i64 M2.c, .int .i64 M2.s, .int .i64 M2.r, .int .i64 M2.t, .slice wba n2 wbc] 27)))
  clear H26
  have H33 := Lib.hid (H27.out.step (al u4 (.cells #[.int .i64 M2.v, .int .i64 M2.c, .int .i64 M2.s, .int .i64 M2.r, .int .i64 M2.t, .slice wba n2 wbc] 27)))
  clear H27
  have H34 := Lib.hid (H28.out.step (al u4 (.cells #[.int .i64 M2.v, .int .i64 M2.c, .int .i64 M2.s, .int .i64 M2.r, .int .i64 M2.t, .slice wba n2 wbc] 27)))
  clear H28
  have H35 := Lib.hid (H29.out.step (al u4 (.cells #[.int .i64 M2.v, .int .i64 M2.c, .int .i64 M2.s, .int .i64 M2.r, .int .i64 M2.t, .slice wba n2 wbc] 27)))
  clear H29
  have H36 := Lib.hid (H30.out.step (al u4 (.cells #[.int .i64 M2.v, .int .i64 M2.c, .int .i64 M2.s, .int .i64 M2.r, .int .i64 M2.t, .slice wba n2 wbc] 27)))
  clear H30
  have H37 := Lib.hid (keep2 (al u4 (.cells #[.int .i64 M2.v, .int .i64 M2.c, .int .i64 M2.s, .int .i64 M2.r, .int .i64 M2.t, .slice wba n2 wbc] 27)) H31.out)
  clear H31
  have H38 := Lib.hid (Cs.new u4 (u4.heap.size) #[.int .i64 M2.v, .int .i64 M2.c, .int .i64 M2.s, .int .i64 M2.r, .int .i64 M2.t, .slice wba n2 wbc] 27 (by simp))
  have xb0 : (u4.alloc (.cells #[.int .i64 M2.v, .int .i64 M2.c, .int .i64 M2.s, .int .i64 M2.r, .int .i64 M2.t, .slice wba n2 wbc] 27)).cell? ⟨(u3.heap.size + 1), 0, none⟩ = some (.int .i64 number) := H36.out.c 0 rfl
  have xb1 : (u4.alloc (.cells #[.int .i64 M2.v, .int .i64 M2.c, .int .i64 M2.s, .int .i64 M2.r, .int .i64 M2.t, .slice wba n2 wbc] 27)).cell? ⟨(u3.heap.size + 1), 1, none⟩ = some (.int .i64 M.c) := H36.out.c 1 rfl
  have xb2 : (u4.alloc (.cells #[.int .i64 M2.v, .int .i64 M2.c, .int .i64 M2.s, .int .i64 M2.r, .int .i64 M2.t, .slice wba n2 wbc] 27)).cell? ⟨(u3.heap.size + 1), 2, none⟩ = some (.int .i64 M.s) := H36.out.c 2 rfl
  have xb3 : (u4.alloc (.cells #[.int .i64 M2.v, .int .i64 M2.c, .int .i64 M2.s, .int .i64 M2.r, .int .i64 M2.t, .slice wba n2 wbc] 27)).cell? ⟨(u3.heap.size + 1), 3, none⟩ = some (.int .i64 M.r) := H36.out.c 3 rfl
  have xb4 : (u4.alloc (.cells #[.int .i64 M2.v, .int .i64 M2.c, .int .i64 M2.s, .int .i64 M2.r, .int .i64 M2.t, .slice wba n2 wbc] 27)).cell? ⟨(u3.heap.size + 1), 4, none⟩ = some (.int .i64 M.t) := H36.out.c 4 rfl
  have zb : (u3.heap.size + 1) < (u4.alloc (.cells #[.int .i64 M2.v, .int .i64 M2.c, .int .i64 M2.s, .int .i64 M2.r, .int .i64 M2.t, .slice wba n2 wbc] 27)).heap.size := H36.out.2.2
  have xm0 : (u4.alloc (.cells #[.int .i64 M2.v, .int .i64 M2.c, .int .i64 M2.s, .int .i64 M2.r, .int .i64 M2.t, .slice wba n2 wbc] 27)).cell? ⟨(u2.heap.size), 0, none⟩ = some (.int .i64 M.v) := H34.out.c 0 rfl
  have xm1 : (u4.alloc (.cells #[.int .i64 M2.v, .int .i64 M2.c, .int .i64 M2.s, .int .i64 M2.r, .int .i64 M2.t, .slice wba n2 wbc] 27)).cell? ⟨(u2.heap.size), 1, none⟩ = some (.int .i64 M.c) := H34.out.c 1 rfl
  have xm2 : (u4.alloc (.cells #[.int .i64 M2.v, .int .i64 M2.c, .int .i64 M2.s, .int .i64 M2.r, .int .i64 M2.t, .slice wba n2 wbc] 27)).cell? ⟨(u2.heap.size), 2, none⟩ = some (.int .i64 M.s) := H34.out.c 2 rfl
  have xm3 : (u4.alloc (.cells #[.int .i64 M2.v, .int .i64 M2.c, .int .i64 M2.s, .int .i64 M2.r, .int .i64 M2.t, .slice wba n2 wbc] 27)).cell? ⟨(u2.heap.size), 3, none⟩ = some (.int .i64 M.r) := H34.out.c 3 rfl
  have xm4 : (u4.alloc (.cells #[.int .i64 M2.v, .int .i64 M2.c, .int .i64 M2.s, .int .i64 M2.r, .int .i64 M2.t, .slice wba n2 wbc] 27)).cell? ⟨(u2.heap.size), 4, none⟩ = some (.int .i64 M.t) := H34.out.c 4 rfl
  have zm : (u2.heap.size) < (u4.alloc (.cells #[.int .i64 M2.v, .int .i64 M2.c, .int .i64 M2.s, .int .i64 M2.r, .int .i64 M2.t, .slice wba n2 wbc] 27)).heap.size := H34.out.2.2
  have xt0 : (u4.alloc (.cells #[.int .i64 M2.v, .int .i64 M2.c, .int .i64 M2.s, .int .i64 M2.r, .int .i64 M2.t, .slice wba n2 wbc] 27)).cell? ⟨(u4.heap.size), 0, none⟩ = some (.int .i64 M2.v) := H38.out.c 0 rfl
  have xt1 : (u4.alloc (.cells #[.int .i64 M2.v, .int .i64 M2.c, .int .i64 M2.s, .int .i64 M2.r, .int .i64 M2.t, .slice wba n2 wbc] 27)).cell? ⟨(u4.heap.size), 1, none⟩ = some (.int .i64 M2.c) := H38.out.c 1 rfl
  have xt2 : (u4.alloc (.cells #[.int .i64 M2.v, .int .i64 M2.c, .int .i64 M2.s, .int .i64 M2.r, .int .i64 M2.t, .slice wba n2 wbc] 27)).cell? ⟨(u4.heap.size), 2, none⟩ = some (.int .i64 M2.s) := H38.out.c 2 rfl
  have xt3 : (u4.alloc (.cells #[.int .i64 M2.v, .int .i64 M2.c, .int .i64 M2.s, .int .i64 M2.r, .int .i64 M2.t, .slice wba n2 wbc] 27)).cell? ⟨(u4.heap.size), 3, none⟩ = some (.int .i64 M2.r) := H38.out.c 3 rfl
  have xt4 : (u4.alloc (.cells #[.int .i64 M2.v, .int .i64 M2.c, .int .i64 M2.s, .int .i64 M2.r, .int .i64 M2.t, .slice wba n2 wbc] 27)).cell? ⟨(u4.heap.size), 4, none⟩ = some (.int .i64 M2.t) := H38.out.c 4 rfl
  have xt5 : (u4.alloc (.cells #[.int .i64 M2.v, .int .i64 M2.c, .int .i64 M2.s, .int .i64 M2.r, .int .i64 M2.t, .slice wba n2 wbc] 27)).cell? ⟨(u4.heap.size), 5, none⟩ = some (.slice wba n2 wbc) := H38.out.c 5 rfl
  have zt : (u4.heap.size) < (u4.alloc (.cells #[.int .i64 M2.v, .int .i64 M2.c, .int .i64 M2.s, .int .i64 M2.r, .int .i64 M2.t, .slice wba n2 wbc] 27)).heap.size := H38.out.2.2
  have q24 := fun (W : World) => eq_ch0 M number W
  rw [hB2.out] at q24
  cases B1
  · cases B2
    · skip
      have f1 : ¬ other = key := by simpa using hB1.out
      have f2 : ¬ E1 = 0 := fun q => f1 (HE1.out.1 q)
      have f3 : (E1 == 0) = false := by simpa using f2
      have f4 : (other == key) = false := by simpa using f1
      have f5 : (E1 = 0) = False := by simpa using f2
      have f6 : (other = key) = False := by simpa using f1
      have g2 : ¬ E2 = 0 := fun q => (show ¬ number = M.v by simpa using hB2.out) (HE2.out.1 q)
      have g3 : (E2 == 0) = false := by simpa using g2
      have g5 : (E2 = 0) = False := by simpa using g2
      obtain rfl : n2 = 0 := by rw [hn2.out, HL2.out g2]; rfl
      go_wp2
      go_ret
      exact ⟨rfl, H37.out⟩
    · skip
      have f1 : ¬ other = key := by simpa using hB1.out
      have f2 : ¬ E1 = 0 := fun q => f1 (HE1.out.1 q)
      have f3 : (E1 == 0) = false := by simpa using f2
      have f4 : (other == key) = false := by simpa using f1
      have f5 : (E1 = 0) = False := by simpa using f2
      have f6 : (other = key) = False := by simpa using f1
      have g2 : E2 = 0 := HE2.out.2 (by simpa using hB2.out)
      have g3 : (E2 == 0) = true := by simpa using g2
      have g5 : (E2 = 0) = True := by simpa using g2
      clear g2
      go_wp2
      go_ret
      exact ⟨rfl, H37.out⟩
  · cases B2
    · skip
      have f1 : other = key := by simpa using hB1.out
      have f2 : E1 = 0 := HE1.out.2 f1
      have f3 : (E1 == 0) = true := by simpa using f2
      have f4 : (other == key) = true := by simpa using f1
      have f5 : (E1 = 0) = True := by simpa using f2
      have f6 : (other = key) = True := by simpa using f1
      clear f1 f2
      have g2 : ¬ E2 = 0 := fun q => (show ¬ number = M.v by simpa using hB2.out) (HE2.out.1 q)
      have g3 : (E2 == 0) = false := by simpa using g2
      have g5 : (E2 = 0) = False := by simpa using g2
      obtain rfl : n2 = 0 := by rw [hn2.out, HL2.out g2]; rfl
      go_wp2
      go_ret
      exact ⟨rfl, H37.out⟩
    · skip
      have f1 : other = key := by simpa using hB1.out
      have f2 : E1 = 0 := HE1.out.2 f1
      have f3 : (E1 == 0) = true := by simpa using f2
      have f4 : (other == key) = true := by simpa using f1
      have f5 : (E1 = 0) = True := by simpa using f2
      have f6 : (other = key) = True := by simpa using f1
      clear f1 f2
      have g2 : E2 = 0 := HE2.out.2 (by simpa using hB2.out)
      have g3 : (E2 == 0) = true := by simpa using g2
      have g5 : (E2 = 0) = True := by simpa using g2
      clear g2
      go_wp2
      go_ret
      exact ⟨rfl, H37.out⟩
set_option maxRecDepth 100000 in
set_option maxHeartbeats 8000000 in
theorem man_1 (key ver s : Int) (v : Value) (D : List Int) (other x number : Int) (w : World) (h : IntsAt w v D) (hcp : ∀ a n c, v = .slice a n c → n ≤ c) (hx0 : 0 ≤ x) (hx1 : x ≤ 255) (hL : D.length ≤ 200) (hE : spE key ver s D = 0) (hK : x.tmod 5 = 1) : Calls Try.prog 6 #[.int .i64 key, .int .i64 ver, .int .i64 s, v, .int .i64 other, .int .u8 x, .int .i64 number] w fun e w' => e = .returned (.bool true) ∧ Below w.heap.size w w' := by
  have H0 := Lib.hid (Below.refl w.heap.size w)
  have H1 := Lib.hid (h)
  replace hL := Lib.hid hL
  replace hE := Lib.hid hE
  replace hK := Lib.hid hK
  obtain ⟨va, vc, rfl, hm, -⟩ := h
  unfold maxLen at hm
  replace hm := Lib.hid hm
  replace hcp := Lib.hid (hcp _ _ _ rfl)
  go_enter Try.func6, Try.ntmps6
  go_wp2_with fail
  refine (head_any _).mono ?_
  rintro e u1 ⟨rfl, b1⟩
  have H2 := Lib.hid (H1.out.step b1)
  clear H1
  have H3 := Lib.hid (keep2 b1 H0.out)
  clear H0
  clear b1
  go_wp2_with fail
  obtain ⟨M, hM⟩ : ∃ z, spM key ver s D 0 = z := ⟨_, rfl⟩
  obtain ⟨l, hl⟩ : ∃ z, spL s D 0 = z := ⟨_, rfl⟩
  replace hM := Lib.hid hM
  replace hl := Lib.hid hl
  refine (split_any key ver s va vc D _ H2.out (by have := hm.out; omega) hcp.out hE.out hM.out hl.out).mono ?_
  rintro e u2 ⟨pv, rfl, hu, b2⟩
  have H4 := Lib.hid (H2.out.step b2)
  clear H2
  have H5 := Lib.hid (keep2 b2 H3.out)
  clear H3
  clear b2
  obtain ⟨ua, uc, rfl, -, -⟩ : ∃ (a : Option Addr) (c : Nat), pv = .slice a l.length c ∧ True ∧ True := by
    obtain ⟨a, c, e, -⟩ := hu
    exact ⟨a, c, e, trivial, trivial⟩
  have H6 := Lib.hid (hu)
  clear hu
  have H7 := Lib.hid (H4.out.step (al u2 (.cells #[.int .i64 M.v, .int .i64 M.c, .int .i64 M.s, .int .i64 M.r, .int .i64 M.t] 24)))
  clear H4
  have H8 := Lib.hid (H6.out.step (al u2 (.cells #[.int .i64 M.v, .int .i64 M.c, .int .i64 M.s, .int .i64 M.r, .int .i64 M.t] 24)))
  clear H6
  have H9 := Lib.hid (keep2 (al u2 (.cells #[.int .i64 M.v, .int .i64 M.c, .int .i64 M.s, .int .i64 M.r, .int .i64 M.t] 24)) H5.out)
  clear H5
  have H10 := Lib.hid (Cs.new u2 (u2.heap.size) #[.int .i64 M.v, .int .i64 M.c, .int .i64 M.s, .int .i64 M.r, .int .i64 M.t] 24 (by simp))
  have xm0 : (u2.alloc (.cells #[.int .i64 M.v, .int .i64 M.c, .int .i64 M.s, .int .i64 M.r, .int .i64 M.t] 24)).cell? ⟨(u2.heap.size), 0, none⟩ = some (.int .i64 M.v) := H10.out.c 0 rfl
  have xm1 : (u2.alloc (.cells #[.int .i64 M.v, .int .i64 M.c, .int .i64 M.s, .int .i64 M.r, .int .i64 M.t] 24)).cell? ⟨(u2.heap.size), 1, none⟩ = some (.int .i64 M.c) := H10.out.c 1 rfl
  have xm2 : (u2.alloc (.cells #[.int .i64 M.v, .int .i64 M.c, .int .i64 M.s, .int .i64 M.r, .int .i64 M.t] 24)).cell? ⟨(u2.heap.size), 2, none⟩ = some (.int .i64 M.s) := H10.out.c 2 rfl
  have xm3 : (u2.alloc (.cells #[.int .i64 M.v, .int .i64 M.c, .int .i64 M.s, .int .i64 M.r, .int .i64 M.t] 24)).cell? ⟨(u2.heap.size), 3, none⟩ = some (.int .i64 M.r) := H10.out.c 3 rfl
  have xm4 : (u2.alloc (.cells #[.int .i64 M.v, .int .i64 M.c, .int .i64 M.s, .int .i64 M.r, .int .i64 M.t] 24)).cell? ⟨(u2.heap.size), 4, none⟩ = some (.int .i64 M.t) := H10.out.c 4 rfl
  have zm : (u2.heap.size) < (u2.alloc (.cells #[.int .i64 M.v, .int .i64 M.c, .int .i64 M.s, .int .i64 M.r, .int .i64 M.t] 24)).heap.size := H10.out.2.2
  have g1 : decide ((D.length : Int) > 200) = false := by simp; have := hL.out; omega
  have g1b : decide ((200 : Int) < (D.length : Int)) = false := by simp; have := hL.out; omega
  go_wp2_with fail
  obtain ⟨B1, hB1⟩ : ∃ b, decide (other = key) = b := ⟨_, rfl⟩
  obtain ⟨E1, hE1⟩ : ∃ z, bgE other 0 M = z := ⟨_, rfl⟩
  obtain ⟨M1, hM1⟩ : ∃ z, bgM E1 M = z := ⟨_, rfl⟩
  obtain ⟨L1, hL1⟩ : ∃ z, bgL E1 M = z := ⟨_, rfl⟩
  have HE1 := Lib.hid (show E1 = 0 ↔ other = key by rw [← hE1, ← hM.out]; exact bg_other hE.out)
  replace hB1 := Lib.hid hB1
  refine (begin_any other 0 M hE1 hM1 hL1 _).mono ?_
  rintro e u3 ⟨sv, rfl, hu2, b3⟩
  clear xm0 xm1 xm2 xm3 xm4 zm
  have H11 := Lib.hid (H7.out.step b3)
  clear H7
  have H12 := Lib.hid (H8.out.step b3)
  clear H8
  have H13 := Lib.hid (H10.out.step b3)
  clear H10
  have H14 := Lib.hid (keep2 b3 H9.out)
  clear H9
  clear b3
  clear hE1 hM1 hL1
  have HS9 := Lib.hid (H14.out.size)
  have HS8 := Lib.hid (H13.out.2.2)
  obtain ⟨n1, uba, ubc, rfl, -⟩ : ∃ (n : Nat) (a : Option Addr) (c : Nat), sv = .slice a n c ∧ True := by
    obtain ⟨a, c, e, -⟩ := hu2
    exact ⟨_, a, c, e, trivial⟩
  clear hu2
  have H15 := Lib.hid (H11.out.step (al u3 (.cells #[.int .i64 M1.v, .int .i64 M1.c, .int .i64 M1.s, .int .i64 M1.r, .int .i64 M1.t, .slice uba n1 ubc] 27)))
  clear H11
  have H16 := Lib.hid (H12.out.step (al u3 (.cells #[.int .i64 M1.v, .int .i64 M1.c, .int .i64 M1.s, .int .i64 M1.r, .int .i64 M1.t, .slice uba n1 ubc] 27)))
  clear H12
  have H17 := Lib.hid (H13.out.step (al u3 (.cells #[.int .i64 M1.v, .int .i64 M1.c, .int .i64 M1.s, .int .i64 M1.r, .int .i64 M1.t, .slice uba n1 ubc] 27)))
  clear H13
  have H18 := Lib.hid (keep2 (al u3 (.cells #[.int .i64 M1.v, .int .i64 M1.c, .int .i64 M1.s, .int .i64 M1.r, .int .i64 M1.t, .slice uba n1 ubc] 27)) H14.out)
  clear H14
  have H19 := Lib.hid (Cs.new u3 (u3.heap.size) #[.int .i64 M1.v, .int .i64 M1.c, .int .i64 M1.s, .int .i64 M1.r, .int .i64 M1.t, .slice uba n1 ubc] 27 (by simp))
  have xpm0 : (u3.alloc (.cells #[.int .i64 M1.v, .int .i64 M1.c, .int .i64 M1.s, .int .i64 M1.r, .int .i64 M1.t, .slice uba n1 ubc] 27)).cell? ⟨(u2.heap.size), 0, none⟩ = some (.int .i64 M.v) := H17.out.c 0 rfl
  have xpm1 : (u3.alloc (.cells #[.int .i64 M1.v, .int .i64 M1.c, .int .i64 M1.s, .int .i64 M1.r, .int .i64 M1.t, .slice uba n1 ubc] 27)).cell? ⟨(u2.heap.size), 1, none⟩ = some (.int .i64 M.c) := H17.out.c 1 rfl
  have xpm2 : (u3.alloc (.cells #[.int .i64 M1.v, .int .i64 M1.c, .int .i64 M1.s, .int .i64 M1.r, .int .i64 M1.t, .slice uba n1 ubc] 27)).cell? ⟨(u2.heap.size), 2, none⟩ = some (.int .i64 M.s) := H17.out.c 2 rfl
  have xpm3 : (u3.alloc (.cells #[.int .i64 M1.v, .int .i64 M1.c, .int .i64 M1.s, .int .i64 M1.r, .int .i64 M1.t, .slice uba n1 ubc] 27)).cell? ⟨(u2.heap.size), 3, none⟩ = some (.int .i64 M.r) := H17.out.c 3 rfl
  have xpm4 : (u3.alloc (.cells #[.int .i64 M1.v, .int .i64 M1.c, .int .i64 M1.s, .int .i64 M1.r, .int .i64 M1.t, .slice uba n1 ubc] 27)).cell? ⟨(u2.heap.size), 4, none⟩ = some (.int .i64 M.t) := H17.out.c 4 rfl
  have zpm : (u2.heap.size) < (u3.alloc (.cells #[.int .i64 M1.v, .int .i64 M1.c, .int .i64 M1.s, .int .i64 M1.r, .int .i64 M1.t, .slice uba n1 ubc] 27)).heap.size := H17.out.2.2
  have q1 := H17.out.step (al (u3.alloc (.cells #[.int .i64 M1.v, .int .i64 M1.c, .int .i64 M1.s, .int .i64 M1.r, .int .i64 M1.t, .slice uba n1 ubc] 27)) (.cells #[.int .i64 M.v, .int .i64 M.c, .int .i64 M.s, .int .i64 M.r, .int .i64 M.t] 24))
  have q2 := Cs.new (u3.alloc (.cells #[.int .i64 M1.v, .int .i64 M1.c, .int .i64 M1.s, .int .i64 M1.r, .int .i64 M1.t, .slice uba n1 ubc] 27)) (u3.heap.size + 1) #[.int .i64 M.v, .int .i64 M.c, .int .i64 M.s, .int .i64 M.r, .int .i64 M.t] 24 (by simp)
  have x0 : ((u3.alloc (.cells #[.int .i64 M1.v, .int .i64 M1.c, .int .i64 M1.s, .int .i64 M1.r, .int .i64 M1.t, .slice uba n1 ubc] 27)).alloc (.cells #[.int .i64 M.v, .int .i64 M.c, .int .i64 M.s, .int .i64 M.r, .int .i64 M.t] 24)).cell? ⟨(u2.heap.size), 0, none⟩ = some (.int .i64 M.v) := q1.c 0 rfl
  have z0 : ((u3.alloc (.cells #[.int .i64 M1.v, .int .i64 M1.c, .int .i64 M1.s, .int .i64 M1.r, .int .i64 M1.t, .slice uba n1 ubc] 27)).alloc (.cells #[.int .i64 M.v, .int .i64 M.c, .int .i64 M.s, .int .i64 M.r, .int .i64 M.t] 24)).cell? ⟨(u3.heap.size + 1), 0, none⟩ = some (.int .i64 M.v) := q2.c 0 rfl
  have y0 : ((u3.alloc (.cells #[.int .i64 M1.v, .int .i64 M1.c, .int .i64 M1.s, .int .i64 M1.r, .int .i64 M1.t, .slice uba n1 ubc] 27)).alloc (.cells #[.int .i64 M.v, .int .i64 M.c, .int .i64 M.s, .int .i64 M.r, .int .i64 M.t] 24)).frozen? ⟨(u3.heap.size + 1), 0, none⟩ = false := q2.f 0 (by simp)
  have x1 : ((u3.alloc (.cells #[.int .i64 M1.v, .int .i64 M1.c, .int .i64 M1.s, .int .i64 M1.r, .int .i64 M1.t, .slice uba n1 ubc] 27)).alloc (.cells #[.int .i64 M.v, .int .i64 M.c, .int .i64 M.s, .int .i64 M.r, .int .i64 M.t] 24)).cell? ⟨(u2.heap.size), 1, none⟩ = some (.int .i64 M.c) := q1.c 1 rfl
  have z1 : ((u3.alloc (.cells #[.int .i64 M1.v, .int .i64 M1.c, .int .i64 M1.s, .int .i64 M1.r, .int .i64 M1.t, .slice uba n1 ubc] 27)).alloc (.cells #[.int .i64 M.v, .int .i64 M.c, .int .i64 M.s, .int .i64 M.r, .int .i64 M.t] 24)).cell? ⟨(u3.heap.size + 1), 1, none⟩ = some (.int .i64 M.c) := q2.c 1 rfl
  have y1 : ((u3.alloc (.cells #[.int .i64 M1.v, .int .i64 M1.c, .int .i64 M1.s, .int .i64 M1.r, .int .i64 M1.t, .slice uba n1 ubc] 27)).alloc (.cells #[.int .i64 M.v, .int .i64 M.c, .int .i64 M.s, .int .i64 M.r, .int .i64 M.t] 24)).frozen? ⟨(u3.heap.size + 1), 1, none⟩ = false := q2.f 1 (by simp)
  have x2 : ((u3.alloc (.cells #[.int .i64 M1.v, .int .i64 M1.c, .int .i64 M1.s, .int .i64 M1.r, .int .i64 M1.t, .slice uba n1 ubc] 27)).alloc (.cells #[.int .i64 M.v, .int .i64 M.c, .int .i64 M.s, .int .i64 M.r, .int .i64 M.t] 24)).cell? ⟨(u2.heap.size), 2, none⟩ = some (.int .i64 M.s) := q1.c 2 rfl
  have z2 : ((u3.alloc (.cells #[.int .i64 M1.v, .int .i64 M1.c, .int .i64 M1.s, .int .i64 M1.r, .int .i64 M1.t, .slice uba n1 ubc] 27)).alloc (.cells #[.int .i64 M.v, .int .i64 M.c, .int .i64 M.s, .int .i64 M.r, .int .i64 M.t] 24)).cell? ⟨(u3.heap.size + 1), 2, none⟩ = some (.int .i64 M.s) := q2.c 2 rfl
  have y2 : ((u3.alloc (.cells #[.int .i64 M1.v, .int .i64 M1.c, .int .i64 M1.s, .int .i64 M1.r, .int .i64 M1.t, .slice uba n1 ubc] 27)).alloc (.cells #[.int .i64 M.v, .int .i64 M.c, .int .i64 M.s, .int .i64 M.r, .int .i64 M.t] 24)).frozen? ⟨(u3.heap.size + 1), 2, none⟩ = false := q2.f 2 (by simp)
  have x3 : ((u3.alloc (.cells #[.int .i64 M1.v, .int .i64 M1.c, .int .i64 M1.s, .int .i64 M1.r, .int .i64 M1.t, .slice uba n1 ubc] 27)).alloc (.cells #[.int .i64 M.v, .int .i64 M.c, .int .i64 M.s, .int .i64 M.r, .int .i64 M.t] 24)).cell? ⟨(u2.heap.size), 3, none⟩ = some (.int .i64 M.r) := q1.c 3 rfl
  have z3 : ((u3.alloc (.cells #[.int .i64 M1.v, .int .i64 M1.c, .int .i64 M1.s, .int .i64 M1.r, .int .i64 M1.t, .slice uba n1 ubc] 27)).alloc (.cells #[.int .i64 M.v, .int .i64 M.c, .int .i64 M.s, .int .i64 M.r, .int .i64 M.t] 24)).cell? ⟨(u3.heap.size + 1), 3, none⟩ = some (.int .i64 M.r) := q2.c 3 rfl
  have y3 : ((u3.alloc (.cells #[.int .i64 M1.v, .int .i64 M1.c, .int .i64 M1.s, .int .i64 M1.r, .int .i64 M1.t, .slice uba n1 ubc] 27)).alloc (.cells #[.int .i64 M.v, .int .i64 M.c, .int .i64 M.s, .int .i64 M.r, .int .i64 M.t] 24)).frozen? ⟨(u3.heap.size + 1), 3, none⟩ = false := q2.f 3 (by simp)
  have x4 : ((u3.alloc (.cells #[.int .i64 M1.v, .int .i64 M1.c, .int .i64 M1.s, .int .i64 M1.r, .int .i64 M1.t, .slice uba n1 ubc] 27)).alloc (.cells #[.int .i64 M.v, .int .i64 M.c, .int .i64 M.s, .int .i64 M.r, .int .i64 M.t] 24)).cell? ⟨(u2.heap.size), 4, none⟩ = some (.int .i64 M.t) := q1.c 4 rfl
  have z4 : ((u3.alloc (.cells #[.int .i64 M1.v, .int .i64 M1.c, .int .i64 M1.s, .int .i64 M1.r, .int .i64 M1.t, .slice uba n1 ubc] 27)).alloc (.cells #[.int .i64 M.v, .int .i64 M.c, .int .i64 M.s, .int .i64 M.r, .int .i64 M.t] 24)).cell? ⟨(u3.heap.size + 1), 4, none⟩ = some (.int .i64 M.t) := q2.c 4 rfl
  have y4 : ((u3.alloc (.cells #[.int .i64 M1.v, .int .i64 M1.c, .int .i64 M1.s, .int .i64 M1.r, .int .i64 M1.t, .slice uba n1 ubc] 27)).alloc (.cells #[.int .i64 M.v, .int .i64 M.c, .int .i64 M.s, .int .i64 M.r, .int .i64 M.t] 24)).frozen? ⟨(u3.heap.size + 1), 4, none⟩ = false := q2.f 4 (by simp)
  have xz := q1.2.2
  have yz := q2.2.2
  clear q1 q2
  have t1 : IntKind.i64.wrap x = x := IntWalk.i64_in _ (by omega)
  have t2 : wrap64 x = x := IntWalk.wrap64_in _ (by omega)
  have t3 : x.tmod 5 = 1 := hK.out
  have t4 : wrap64 (x.tmod 5) = 1 := by rw [hK.out]; exact IntWalk.wrap64_in _ (by omega)
  have t5 : IntKind.i64.wrap (x.tmod 5) = 1 := by rw [hK.out]; exact IntWalk.i64_in _ (by omega)
  go_wp2_with fail
  clear xpm0 xpm1 xpm2 xpm3 xpm4 zpm x0 y0 z0 x1 y1 z1 x2 y2 z2 x3 y3 z3 x4 y4 z4 xz yz
  have H20 := Lib.hid (H15.out.step (al (u3.alloc (.cells #[.int .i64 M1.v, .int .i64 M1.c, .int .i64 M1.s, .int .i64 M1.r, .int .i64 M1.t, .slice uba n1 ubc] 27)) (.cells #[.int .i64 M.v, .int .i64 number, .int .i64 M.s, .int .i64 M.r, .int .i64 M.t] 24)))
  clear H15
  have H21 := Lib.hid (H16.out.step (al (u3.alloc (.cells #[.int .i64 M1.v, .int .i64 M1.c, .int .i64 M1.s, .int .i64 M1.r, .int .i64 M1.t, .slice uba n1 ubc] 27)) (.cells #[.int .i64 M.v, .int .i64 number, .int .i64 M.s, .int .i64 M.r, .int .i64 M.t] 24)))
  clear H16
  have H22 := Lib.hid (H17.out.step (al (u3.alloc (.cells #[.int .i64 M1.v, .int .i64 M1.c, .int .i64 M1.s, .int .i64 M1.r, .int .i64 M1.t, .slice uba n1 ubc] 27)) (.cells #[.int .i64 M.v, .int .i64 number, .int .i64 M.s, .int .i64 M.r, .int .i64 M.t] 24)))
  clear H17
  have H23 := Lib.hid (H19.out.step (al (u3.alloc (.cells #[.int .i64 M1.v, .int .i64 M1.c, .int .i64 M1.s, .int .i64 M1.r, .int .i64 M1.t, .slice uba n1 ubc] 27)) (.cells #[.int .i64 M.v, .int .i64 number, .int .i64 M.s, .int .i64 M.r, .int .i64 M.t] 24)))
  clear H19
  have H24 := Lib.hid (keep2 (al (u3.alloc (.cells #[.int .i64 M1.v, .int .i64 M1.c, .int .i64 M1.s, .int .i64 M1.r, .int .i64 M1.t, .slice uba n1 ubc] 27)) (.cells #[.int .i64 M.v, .int .i64 number, .int .i64 M.s, .int .i64 M.r, .int .i64 M.t] 24)) H18.out)
  clear H18
  have H25 := Lib.hid (Cs.new (u3.alloc (.cells #[.int .i64 M1.v, .int .i64 M1.c, .int .i64 M1.s, .int .i64 M1.r, .int .i64 M1.t, .slice uba n1 ubc] 27)) (u3.heap.size + 1) #[.int .i64 M.v, .int .i64 number, .int .i64 M.s, .int .i64 M.r, .int .i64 M.t] 24 (by simp))
  clear t1 t2 t3 t4 t5
  obtain ⟨MX, hMX⟩ : ∃ z, chM 1 number M = z := ⟨_, rfl⟩
  obtain ⟨E2, hE2⟩ : ∃ z, bgE key 0 (chM 1 number M) = z := ⟨_, rfl⟩
  obtain ⟨M2, hM2⟩ : ∃ z, bgM E2 (chM 1 number M) = z := ⟨_, rfl⟩
  obtain ⟨L2, hL2⟩ : ∃ z, bgL E2 (chM 1 number M) = z := ⟨_, rfl⟩
  clear hMX MX
  obtain ⟨B2, hB2⟩ : ∃ b, decide (number = M.c) = b := ⟨_, rfl⟩
  have HE2 := Lib.hid (show E2 = 0 ↔ number = M.c by rw [← hE2, ← hM.out]; exact bg_changed hE.out 1)
  replace hB2 := Lib.hid hB2
  have HL2 := Lib.hid (show E2 ≠ 0 → L2 = [] from fun q => by rw [← hL2]; exact if_neg q)
  refine (begin_any key 0 (chM 1 number M) hE2 hM2 hL2 _).mono ?_
  rintro e u4 ⟨sw, rfl, hu3, b4⟩
  have H26 := Lib.hid (H20.out.step b4)
  clear H20
  have H27 := Lib.hid (H21.out.step b4)
  clear H21
  have H28 := Lib.hid (H22.out.step b4)
  clear H22
  have H29 := Lib.hid (H23.out.step b4)
  clear H23
  have H30 := Lib.hid (H25.out.step b4)
  clear H25
  have H31 := Lib.hid (keep2 b4 H24.out)
  clear H24
  clear b4
  clear hE2 hM2 hL2
  obtain ⟨n2, wba, wbc, rfl, hn2⟩ : ∃ (n : Nat) (a : Option Addr) (c : Nat), sw = .slice a n c ∧ n = L2.length := by
    obtain ⟨a, c, e, -⟩ := hu3
    exact ⟨_, a, c, e, rfl⟩
  clear hu3
  replace hn2 := Lib.hid hn2
  have H32 := Lib.hid (H26.out.step (al u4 (.cells #[.int .i64 M2.v, .int .i64 M2.c, .int .i64 M2.s, .int .i64 M2.r, .int .i64 M2.t, .slice wba n2 wbc] 27)))
  clear H26
  have H33 := Lib.hid (H27.out.step (al u4 (.cells #[.int .i64 M2.v, .int .i64 M2.c, .int .i64 M2.s, .int .i64 M2.r, .int .i64 M2.t, .slice wba n2 wbc] 27)))
  clear H27
  have H34 := Lib.hid (H28.out.step (al u4 (.cells #[.int .i64 M2.v, .int .i64 M2.c, .int .i64 M2.s, .int .i64 M2.r, .int .i64 M2.t, .slice wba n2 wbc] 27)))
  clear H28
  have H35 := Lib.hid (H29.out.step (al u4 (.cells #[.int .i64 M2.v, .int .i64 M2.c, .int .i64 M2.s, .int .i64 M2.r, .int .i64 M2.t, .slice wba n2 wbc] 27)))
  clear H29
  have H36 := Lib.hid (H30.out.step (al u4 (.cells #[.int .i64 M2.v, .int .i64 M2.c, .int .i64 M2.s, .int .i64 M2.r, .int .i64 M2.t, .slice wba n2 wbc] 27)))
  clear H30
  have H37 := Lib.hid (keep2 (al u4 (.cells #[.int .i64 M2.v, .int .i64 M2.c, .int .i64 M2.s, .int .i64 M2.r, .int .i64 M2.t, .slice wba n2 wbc] 27)) H31.out)
  clear H31
  have H38 := Lib.hid (Cs.new u4 (u4.heap.size) #[.int .i64 M2.v, .int .i64 M2.c, .int .i64 M2.s, .int .i64 M2.r, .int .i64 M2.t, .slice wba n2 wbc] 27 (by simp))
  have xb0 : (u4.alloc (.cells #[.int .i64 M2.v, .int .i64 M2.c, .int .i64 M2.s, .int .i64 M2.r, .int .i64 M2.t, .slice wba n2 wbc] 27)).cell? ⟨(u3.heap.size + 1), 0, none⟩ = some (.int .i64 M.v) := H36.out.c 0 rfl
  have xb1 : (u4.alloc (.cells #[.int .i64 M2.v, .int .i64 M2.c, .int .i64 M2.s, .int .i64 M2.r, .int .i64 M2.t, .slice wba n2 wbc] 27)).cell? ⟨(u3.heap.size + 1), 1, none⟩ = some (.int .i64 number) := H36.out.c 1 rfl
  have xb2 : (u4.alloc (.cells #[.int .i64 M2.v, .int .i64 M2.c, .int .i64 M2.s, .int .i64 M2.r, .int .i64 M2.t, .slice wba n2 wbc] 27)).cell? ⟨(u3.heap.size + 1), 2, none⟩ = some (.int .i64 M.s) := H36.out.c 2 rfl
  have xb3 : (u4.alloc (.cells #[.int .i64 M2.v, .int .i64 M2.c, .int .i64 M2.s, .int .i64 M2.r, .int .i64 M2.t, .slice wba n2 wbc] 27)).cell? ⟨(u3.heap.size + 1), 3, none⟩ = some (.int .i64 M.r) := H36.out.c 3 rfl
  have xb4 : (u4.alloc (.cells #[.int .i64 M2.v, .int .i64 M2.c, .int .i64 M2.s, .int .i64 M2.r, .int .i64 M2.t, .slice wba n2 wbc] 27)).cell? ⟨(u3.heap.size + 1), 4, none⟩ = some (.int .i64 M.t) := H36.out.c 4 rfl
  have zb : (u3.heap.size + 1) < (u4.alloc (.cells #[.int .i64 M2.v, .int .i64 M2.c, .int .i64 M2.s, .int .i64 M2.r, .int .i64 M2.t, .slice wba n2 wbc] 27)).heap.size := H36.out.2.2
  have xm0 : (u4.alloc (.cells #[.int .i64 M2.v, .int .i64 M2.c, .int .i64 M2.s, .int .i64 M2.r, .int .i64 M2.t, .slice wba n2 wbc] 27)).cell? ⟨(u2.heap.size), 0, none⟩ = some (.int .i64 M.v) := H34.out.c 0 rfl
  have xm1 : (u4.alloc (.cells #[.int .i64 M2.v, .int .i64 M2.c, .int .i64 M2.s, .int .i64 M2.r, .int .i64 M2.t, .slice wba n2 wbc] 27)).cell? ⟨(u2.heap.size), 1, none⟩ = some (.int .i64 M.c) := H34.out.c 1 rfl
  have xm2 : (u4.alloc (.cells #[.int .i64 M2.v, .int .i64 M2.c, .int .i64 M2.s, .int .i64 M2.r, .int .i64 M2.t, .slice wba n2 wbc] 27)).cell? ⟨(u2.heap.size), 2, none⟩ = some (.int .i64 M.s) := H34.out.c 2 rfl
  have xm3 : (u4.alloc (.cells #[.int .i64 M2.v, .int .i64 M2.c, .int .i64 M2.s, .int .i64 M2.r, .int .i64 M2.t, .slice wba n2 wbc] 27)).cell? ⟨(u2.heap.size), 3, none⟩ = some (.int .i64 M.r) := H34.out.c 3 rfl
  have xm4 : (u4.alloc (.cells #[.int .i64 M2.v, .int .i64 M2.c, .int .i64 M2.s, .int .i64 M2.r, .int .i64 M2.t, .slice wba n2 wbc] 27)).cell? ⟨(u2.heap.size), 4, none⟩ = some (.int .i64 M.t) := H34.out.c 4 rfl
  have zm : (u2.heap.size) < (u4.alloc (.cells #[.int .i64 M2.v, .int .i64 M2.c, .int .i64 M2.s, .int .i64 M2.r, .int .i64 M2.t, .slice wba n2 wbc] 27)).heap.size := H34.out.2.2
  have xt0 : (u4.alloc (.cells #[.int .i64 M2.v, .int .i64 M2.c, .int .i64 M2.s, .int .i64 M2.r, .int .i64 M2.t, .slice wba n2 wbc] 27)).cell? ⟨(u4.heap.size), 0, none⟩ = some (.int .i64 M2.v) := H38.out.c 0 rfl
  have xt1 : (u4.alloc (.cells #[.int .i64 M2.v, .int .i64 M2.c, .int .i64 M2.s, .int .i64 M2.r, .int .i64 M2.t, .slice wba n2 wbc] 27)).cell? ⟨(u4.heap.size), 1, none⟩ = some (.int .i64 M2.c) := H38.out.c 1 rfl
  have xt2 : (u4.alloc (.cells #[.int .i64 M2.v, .int .i64 M2.c, .int .i64 M2.s, .int .i64 M2.r, .int .i64 M2.t, .slice wba n2 wbc] 27)).cell? ⟨(u4.heap.size), 2, none⟩ = some (.int .i64 M2.s) := H38.out.c 2 rfl
  have xt3 : (u4.alloc (.cells #[.int .i64 M2.v, .int .i64 M2.c, .int .i64 M2.s, .int .i64 M2.r, .int .i64 M2.t, .slice wba n2 wbc] 27)).cell? ⟨(u4.heap.size), 3, none⟩ = some (.int .i64 M2.r) := H38.out.c 3 rfl
  have xt4 : (u4.alloc (.cells #[.int .i64 M2.v, .int .i64 M2.c, .int .i64 M2.s, .int .i64 M2.r, .int .i64 M2.t, .slice wba n2 wbc] 27)).cell? ⟨(u4.heap.size), 4, none⟩ = some (.int .i64 M2.t) := H38.out.c 4 rfl
  have xt5 : (u4.alloc (.cells #[.int .i64 M2.v, .int .i64 M2.c, .int .i64 M2.s, .int .i64 M2.r, .int .i64 M2.t, .slice wba n2 wbc] 27)).cell? ⟨(u4.heap.size), 5, none⟩ = some (.slice wba n2 wbc) := H38.out.c 5 rfl
  have zt : (u4.heap.size) < (u4.alloc (.cells #[.int .i64 M2.v, .int .i64 M2.c, .int .i64 M2.s, .int .i64 M2.r, .int .i64 M2.t, .slice wba n2 wbc] 27)).heap.size := H38.out.2.2
  have q24 := fun (W : World) => eq_ch1 M number W
  rw [hB2.out] at q24
  cases B1
  · cases B2
    · skip
      have f1 : ¬ other = key := by simpa using hB1.out
      have f2 : ¬ E1 = 0 := fun q => f1 (HE1.out.1 q)
      have f3 : (E1 == 0) = false := by simpa using f2
      have f4 : (other == key) = false := by simpa using f1
      have f5 : (E1 = 0) = False := by simpa using f2
      have f6 : (other = key) = False := by simpa using f1
      have g2 : ¬ E2 = 0 := fun q => (show ¬ number = M.c by simpa using hB2.out) (HE2.out.1 q)
      have g3 : (E2 == 0) = false := by simpa using g2
      have g5 : (E2 = 0) = False := by simpa using g2
      obtain rfl : n2 = 0 := by rw [hn2.out, HL2.out g2]; rfl
      go_wp2
      go_ret
      exact ⟨rfl, H37.out⟩
    · skip
      have f1 : ¬ other = key := by simpa using hB1.out
      have f2 : ¬ E1 = 0 := fun q => f1 (HE1.out.1 q)
      have f3 : (E1 == 0) = false := by simpa using f2
      have f4 : (other == key) = false := by simpa using f1
      have f5 : (E1 = 0) = False := by simpa using f2
      have f6 : (other = key) = False := by simpa using f1
      have g2 : E2 = 0 := HE2.out.2 (by simpa using hB2.out)
      have g3 : (E2 == 0) = true := by simpa using g2
      have g5 : (E2 = 0) = True := by simpa using g2
      clear g2
      go_wp2
      go_ret
      exact ⟨rfl, H37.out⟩
  · cases B2
    · skip
      have f1 : other = key := by simpa using hB1.out
      have f2 : E1 = 0 := HE1.out.2 f1
      have f3 : (E1 == 0) = true := by simpa using f2
      have f4 : (other == key) = true := by simpa using f1
      have f5 : (E1 = 0) = True := by simpa using f2
      have f6 : (other = key) = True := by simpa using f1
      clear f1 f2
      have g2 : ¬ E2 = 0 := fun q => (show ¬ number = M.c by simpa using hB2.out) (HE2.out.1 q)
      have g3 : (E2 == 0) = false := by simpa using g2
      have g5 : (E2 = 0) = False := by simpa using g2
      obtain rfl : n2 = 0 := by rw [hn2.out, HL2.out g2]; rfl
      go_wp2
      go_ret
      exact ⟨rfl, H37.out⟩
    · skip
      have f1 : other = key := by simpa using hB1.out
      have f2 : E1 = 0 := HE1.out.2 f1
      have f3 : (E1 == 0) = true := by simpa using f2
      have f4 : (other == key) = true := by simpa using f1
      have f5 : (E1 = 0) = True := by simpa using f2
      have f6 : (other = key) = True := by simpa using f1
      clear f1 f2
      have g2 : E2 = 0 := HE2.out.2 (by simpa using hB2.out)
      have g3 : (E2 == 0) = true := by simpa using g2
      have g5 : (E2 = 0) = True := by simpa using g2
      clear g2
      go_wp2
      go_ret
      exact ⟨rfl, H37.out⟩
set_option maxRecDepth 100000 in
set_option maxHeartbeats 8000000 in
theorem man_2 (key ver s : Int) (v : Value) (D : List Int) (other x number : Int) (w : World) (h : IntsAt w v D) (hcp : ∀ a n c, v = .slice a n c → n ≤ c) (hx0 : 0 ≤ x) (hx1 : x ≤ 255) (hL : D.length ≤ 200) (hE : spE key ver s D = 0) (hK : x.tmod 5 = 2) : Calls Try.prog 6 #[.int .i64 key, .int .i64 ver, .int .i64 s, v, .int .i64 other, .int .u8 x, .int .i64 number] w fun e w' => e = .returned (.bool true) ∧ Below w.heap.size w w' := by
  have H0 := Lib.hid (Below.refl w.heap.size w)
  have H1 := Lib.hid (h)
  replace hL := Lib.hid hL
  replace hE := Lib.hid hE
  replace hK := Lib.hid hK
  obtain ⟨va, vc, rfl, hm, -⟩ := h
  unfold maxLen at hm
  replace hm := Lib.hid hm
  replace hcp := Lib.hid (hcp _ _ _ rfl)
  go_enter Try.func6, Try.ntmps6
  go_wp2_with fail
  refine (head_any _).mono ?_
  rintro e u1 ⟨rfl, b1⟩
  have H2 := Lib.hid (H1.out.step b1)
  clear H1
  have H3 := Lib.hid (keep2 b1 H0.out)
  clear H0
  clear b1
  go_wp2_with fail
  obtain ⟨M, hM⟩ : ∃ z, spM key ver s D 0 = z := ⟨_, rfl⟩
  obtain ⟨l, hl⟩ : ∃ z, spL s D 0 = z := ⟨_, rfl⟩
  replace hM := Lib.hid hM
  replace hl := Lib.hid hl
  refine (split_any key ver s va vc D _ H2.out (by have := hm.out; omega) hcp.out hE.out hM.out hl.out).mono ?_
  rintro e u2 ⟨pv, rfl, hu, b2⟩
  have H4 := Lib.hid (H2.out.step b2)
  clear H2
  have H5 := Lib.hid (keep2 b2 H3.out)
  clear H3
  clear b2
  obtain ⟨ua, uc, rfl, -, -⟩ : ∃ (a : Option Addr) (c : Nat), pv = .slice a l.length c ∧ True ∧ True := by
    obtain ⟨a, c, e, -⟩ := hu
    exact ⟨a, c, e, trivial, trivial⟩
  have H6 := Lib.hid (hu)
  clear hu
  have H7 := Lib.hid (H4.out.step (al u2 (.cells #[.int .i64 M.v, .int .i64 M.c, .int .i64 M.s, .int .i64 M.r, .int .i64 M.t] 24)))
  clear H4
  have H8 := Lib.hid (H6.out.step (al u2 (.cells #[.int .i64 M.v, .int .i64 M.c, .int .i64 M.s, .int .i64 M.r, .int .i64 M.t] 24)))
  clear H6
  have H9 := Lib.hid (keep2 (al u2 (.cells #[.int .i64 M.v, .int .i64 M.c, .int .i64 M.s, .int .i64 M.r, .int .i64 M.t] 24)) H5.out)
  clear H5
  have H10 := Lib.hid (Cs.new u2 (u2.heap.size) #[.int .i64 M.v, .int .i64 M.c, .int .i64 M.s, .int .i64 M.r, .int .i64 M.t] 24 (by simp))
  have xm0 : (u2.alloc (.cells #[.int .i64 M.v, .int .i64 M.c, .int .i64 M.s, .int .i64 M.r, .int .i64 M.t] 24)).cell? ⟨(u2.heap.size), 0, none⟩ = some (.int .i64 M.v) := H10.out.c 0 rfl
  have xm1 : (u2.alloc (.cells #[.int .i64 M.v, .int .i64 M.c, .int .i64 M.s, .int .i64 M.r, .int .i64 M.t] 24)).cell? ⟨(u2.heap.size), 1, none⟩ = some (.int .i64 M.c) := H10.out.c 1 rfl
  have xm2 : (u2.alloc (.cells #[.int .i64 M.v, .int .i64 M.c, .int .i64 M.s, .int .i64 M.r, .int .i64 M.t] 24)).cell? ⟨(u2.heap.size), 2, none⟩ = some (.int .i64 M.s) := H10.out.c 2 rfl
  have xm3 : (u2.alloc (.cells #[.int .i64 M.v, .int .i64 M.c, .int .i64 M.s, .int .i64 M.r, .int .i64 M.t] 24)).cell? ⟨(u2.heap.size), 3, none⟩ = some (.int .i64 M.r) := H10.out.c 3 rfl
  have xm4 : (u2.alloc (.cells #[.int .i64 M.v, .int .i64 M.c, .int .i64 M.s, .int .i64 M.r, .int .i64 M.t] 24)).cell? ⟨(u2.heap.size), 4, none⟩ = some (.int .i64 M.t) := H10.out.c 4 rfl
  have zm : (u2.heap.size) < (u2.alloc (.cells #[.int .i64 M.v, .int .i64 M.c, .int .i64 M.s, .int .i64 M.r, .int .i64 M.t] 24)).heap.size := H10.out.2.2
  have g1 : decide ((D.length : Int) > 200) = false := by simp; have := hL.out; omega
  have g1b : decide ((200 : Int) < (D.length : Int)) = false := by simp; have := hL.out; omega
  go_wp2_with fail
  obtain ⟨B1, hB1⟩ : ∃ b, decide (other = key) = b := ⟨_, rfl⟩
  obtain ⟨E1, hE1⟩ : ∃ z, bgE other 0 M = z := ⟨_, rfl⟩
  obtain ⟨M1, hM1⟩ : ∃ z, bgM E1 M = z := ⟨_, rfl⟩
  obtain ⟨L1, hL1⟩ : ∃ z, bgL E1 M = z := ⟨_, rfl⟩
  have HE1 := Lib.hid (show E1 = 0 ↔ other = key by rw [← hE1, ← hM.out]; exact bg_other hE.out)
  replace hB1 := Lib.hid hB1
  refine (begin_any other 0 M hE1 hM1 hL1 _).mono ?_
  rintro e u3 ⟨sv, rfl, hu2, b3⟩
  clear xm0 xm1 xm2 xm3 xm4 zm
  have H11 := Lib.hid (H7.out.step b3)
  clear H7
  have H12 := Lib.hid (H8.out.step b3)
  clear H8
  have H13 := Lib.hid (H10.out.step b3)
  clear H10
  have H14 := Lib.hid (keep2 b3 H9.out)
  clear H9
  clear b3
  clear hE1 hM1 hL1
  have HS9 := Lib.hid (H14.out.size)
  have HS8 := Lib.hid (H13.out.2.2)
  obtain ⟨n1, uba, ubc, rfl, -⟩ : ∃ (n : Nat) (a : Option Addr) (c : Nat), sv = .slice a n c ∧ True := by
    obtain ⟨a, c, e, -⟩ := hu2
    exact ⟨_, a, c, e, trivial⟩
  clear hu2
  have H15 := Lib.hid (H11.out.step (al u3 (.cells #[.int .i64 M1.v, .int .i64 M1.c, .int .i64 M1.s, .int .i64 M1.r, .int .i64 M1.t, .slice uba n1 ubc] 27)))
  clear H11
  have H16 := Lib.hid (H12.out.step (al u3 (.cells #[.int .i64 M1.v, .int .i64 M1.c, .int .i64 M1.s, .int .i64 M1.r, .int .i64 M1.t, .slice uba n1 ubc] 27)))
  clear H12
  have H17 := Lib.hid (H13.out.step (al u3 (.cells #[.int .i64 M1.v, .int .i64 M1.c, .int .i64 M1.s, .int .i64 M1.r, .int .i64 M1.t, .slice uba n1 ubc] 27)))
  clear H13
  have H18 := Lib.hid (keep2 (al u3 (.cells #[.int .i64 M1.v, .int .i64 M1.c, .int .i64 M1.s, .int .i64 M1.r, .int .i64 M1.t, .slice uba n1 ubc] 27)) H14.out)
  clear H14
  have H19 := Lib.hid (Cs.new u3 (u3.heap.size) #[.int .i64 M1.v, .int .i64 M1.c, .int .i64 M1.s, .int .i64 M1.r, .int .i64 M1.t, .slice uba n1 ubc] 27 (by simp))
  have xpm0 : (u3.alloc (.cells #[.int .i64 M1.v, .int .i64 M1.c, .int .i64 M1.s, .int .i64 M1.r, .int .i64 M1.t, .slice uba n1 ubc] 27)).cell? ⟨(u2.heap.size), 0, none⟩ = some (.int .i64 M.v) := H17.out.c 0 rfl
  have xpm1 : (u3.alloc (.cells #[.int .i64 M1.v, .int .i64 M1.c, .int .i64 M1.s, .int .i64 M1.r, .int .i64 M1.t, .slice uba n1 ubc] 27)).cell? ⟨(u2.heap.size), 1, none⟩ = some (.int .i64 M.c) := H17.out.c 1 rfl
  have xpm2 : (u3.alloc (.cells #[.int .i64 M1.v, .int .i64 M1.c, .int .i64 M1.s, .int .i64 M1.r, .int .i64 M1.t, .slice uba n1 ubc] 27)).cell? ⟨(u2.heap.size), 2, none⟩ = some (.int .i64 M.s) := H17.out.c 2 rfl
  have xpm3 : (u3.alloc (.cells #[.int .i64 M1.v, .int .i64 M1.c, .int .i64 M1.s, .int .i64 M1.r, .int .i64 M1.t, .slice uba n1 ubc] 27)).cell? ⟨(u2.heap.size), 3, none⟩ = some (.int .i64 M.r) := H17.out.c 3 rfl
  have xpm4 : (u3.alloc (.cells #[.int .i64 M1.v, .int .i64 M1.c, .int .i64 M1.s, .int .i64 M1.r, .int .i64 M1.t, .slice uba n1 ubc] 27)).cell? ⟨(u2.heap.size), 4, none⟩ = some (.int .i64 M.t) := H17.out.c 4 rfl
  have zpm : (u2.heap.size) < (u3.alloc (.cells #[.int .i64 M1.v, .int .i64 M1.c, .int .i64 M1.s, .int .i64 M1.r, .int .i64 M1.t, .slice uba n1 ubc] 27)).heap.size := H17.out.2.2
  have q1 := H17.out.step (al (u3.alloc (.cells #[.int .i64 M1.v, .int .i64 M1.c, .int .i64 M1.s, .int .i64 M1.r, .int .i64 M1.t, .slice uba n1 ubc] 27)) (.cells #[.int .i64 M.v, .int .i64 M.c, .int .i64 M.s, .int .i64 M.r, .int .i64 M.t] 24))
  have q2 := Cs.new (u3.alloc (.cells #[.int .i64 M1.v, .int .i64 M1.c, .int .i64 M1.s, .int .i64 M1.r, .int .i64 M1.t, .slice uba n1 ubc] 27)) (u3.heap.size + 1) #[.int .i64 M.v, .int .i64 M.c, .int .i64 M.s, .int .i64 M.r, .int .i64 M.t] 24 (by simp)
  have x0 : ((u3.alloc (.cells #[.int .i64 M1.v, .int .i64 M1.c, .int .i64 M1.s, .int .i64 M1.r, .int .i64 M1.t, .slice uba n1 ubc] 27)).alloc (.cells #[.int .i64 M.v, .int .i64 M.c, .int .i64 M.s, .int .i64 M.r, .int .i64 M.t] 24)).cell? ⟨(u2.heap.size), 0, none⟩ = some (.int .i64 M.v) := q1.c 0 rfl
  have z0 : ((u3.alloc (.cells #[.int .i64 M1.v, .int .i64 M1.c, .int .i64 M1.s, .int .i64 M1.r, .int .i64 M1.t, .slice uba n1 ubc] 27)).alloc (.cells #[.int .i64 M.v, .int .i64 M.c, .int .i64 M.s, .int .i64 M.r, .int .i64 M.t] 24)).cell? ⟨(u3.heap.size + 1), 0, none⟩ = some (.int .i64 M.v) := q2.c 0 rfl
  have y0 : ((u3.alloc (.cells #[.int .i64 M1.v, .int .i64 M1.c, .int .i64 M1.s, .int .i64 M1.r, .int .i64 M1.t, .slice uba n1 ubc] 27)).alloc (.cells #[.int .i64 M.v, .int .i64 M.c, .int .i64 M.s, .int .i64 M.r, .int .i64 M.t] 24)).frozen? ⟨(u3.heap.size + 1), 0, none⟩ = false := q2.f 0 (by simp)
  have x1 : ((u3.alloc (.cells #[.int .i64 M1.v, .int .i64 M1.c, .int .i64 M1.s, .int .i64 M1.r, .int .i64 M1.t, .slice uba n1 ubc] 27)).alloc (.cells #[.int .i64 M.v, .int .i64 M.c, .int .i64 M.s, .int .i64 M.r, .int .i64 M.t] 24)).cell? ⟨(u2.heap.size), 1, none⟩ = some (.int .i64 M.c) := q1.c 1 rfl
  have z1 : ((u3.alloc (.cells #[.int .i64 M1.v, .int .i64 M1.c, .int .i64 M1.s, .int .i64 M1.r, .int .i64 M1.t, .slice uba n1 ubc] 27)).alloc (.cells #[.int .i64 M.v, .int .i64 M.c, .int .i64 M.s, .int .i64 M.r, .int .i64 M.t] 24)).cell? ⟨(u3.heap.size + 1), 1, none⟩ = some (.int .i64 M.c) := q2.c 1 rfl
  have y1 : ((u3.alloc (.cells #[.int .i64 M1.v, .int .i64 M1.c, .int .i64 M1.s, .int .i64 M1.r, .int .i64 M1.t, .slice uba n1 ubc] 27)).alloc (.cells #[.int .i64 M.v, .int .i64 M.c, .int .i64 M.s, .int .i64 M.r, .int .i64 M.t] 24)).frozen? ⟨(u3.heap.size + 1), 1, none⟩ = false := q2.f 1 (by simp)
  have x2 : ((u3.alloc (.cells #[.int .i64 M1.v, .int .i64 M1.c, .int .i64 M1.s, .int .i64 M1.r, .int .i64 M1.t, .slice uba n1 ubc] 27)).alloc (.cells #[.int .i64 M.v, .int .i64 M.c, .int .i64 M.s, .int .i64 M.r, .int .i64 M.t] 24)).cell? ⟨(u2.heap.size), 2, none⟩ = some (.int .i64 M.s) := q1.c 2 rfl
  have z2 : ((u3.alloc (.cells #[.int .i64 M1.v, .int .i64 M1.c, .int .i64 M1.s, .int .i64 M1.r, .int .i64 M1.t, .slice uba n1 ubc] 27)).alloc (.cells #[.int .i64 M.v, .int .i64 M.c, .int .i64 M.s, .int .i64 M.r, .int .i64 M.t] 24)).cell? ⟨(u3.heap.size + 1), 2, none⟩ = some (.int .i64 M.s) := q2.c 2 rfl
  have y2 : ((u3.alloc (.cells #[.int .i64 M1.v, .int .i64 M1.c, .int .i64 M1.s, .int .i64 M1.r, .int .i64 M1.t, .slice uba n1 ubc] 27)).alloc (.cells #[.int .i64 M.v, .int .i64 M.c, .int .i64 M.s, .int .i64 M.r, .int .i64 M.t] 24)).frozen? ⟨(u3.heap.size + 1), 2, none⟩ = false := q2.f 2 (by simp)
  have x3 : ((u3.alloc (.cells #[.int .i64 M1.v, .int .i64 M1.c, .int .i64 M1.s, .int .i64 M1.r, .int .i64 M1.t, .slice uba n1 ubc] 27)).alloc (.cells #[.int .i64 M.v, .int .i64 M.c, .int .i64 M.s, .int .i64 M.r, .int .i64 M.t] 24)).cell? ⟨(u2.heap.size), 3, none⟩ = some (.int .i64 M.r) := q1.c 3 rfl
  have z3 : ((u3.alloc (.cells #[.int .i64 M1.v, .int .i64 M1.c, .int .i64 M1.s, .int .i64 M1.r, .int .i64 M1.t, .slice uba n1 ubc] 27)).alloc (.cells #[.int .i64 M.v, .int .i64 M.c, .int .i64 M.s, .int .i64 M.r, .int .i64 M.t] 24)).cell? ⟨(u3.heap.size + 1), 3, none⟩ = some (.int .i64 M.r) := q2.c 3 rfl
  have y3 : ((u3.alloc (.cells #[.int .i64 M1.v, .int .i64 M1.c, .int .i64 M1.s, .int .i64 M1.r, .int .i64 M1.t, .slice uba n1 ubc] 27)).alloc (.cells #[.int .i64 M.v, .int .i64 M.c, .int .i64 M.s, .int .i64 M.r, .int .i64 M.t] 24)).frozen? ⟨(u3.heap.size + 1), 3, none⟩ = false := q2.f 3 (by simp)
  have x4 : ((u3.alloc (.cells #[.int .i64 M1.v, .int .i64 M1.c, .int .i64 M1.s, .int .i64 M1.r, .int .i64 M1.t, .slice uba n1 ubc] 27)).alloc (.cells #[.int .i64 M.v, .int .i64 M.c, .int .i64 M.s, .int .i64 M.r, .int .i64 M.t] 24)).cell? ⟨(u2.heap.size), 4, none⟩ = some (.int .i64 M.t) := q1.c 4 rfl
  have z4 : ((u3.alloc (.cells #[.int .i64 M1.v, .int .i64 M1.c, .int .i64 M1.s, .int .i64 M1.r, .int .i64 M1.t, .slice uba n1 ubc] 27)).alloc (.cells #[.int .i64 M.v, .int .i64 M.c, .int .i64 M.s, .int .i64 M.r, .int .i64 M.t] 24)).cell? ⟨(u3.heap.size + 1), 4, none⟩ = some (.int .i64 M.t) := q2.c 4 rfl
  have y4 : ((u3.alloc (.cells #[.int .i64 M1.v, .int .i64 M1.c, .int .i64 M1.s, .int .i64 M1.r, .int .i64 M1.t, .slice uba n1 ubc] 27)).alloc (.cells #[.int .i64 M.v, .int .i64 M.c, .int .i64 M.s, .int .i64 M.r, .int .i64 M.t] 24)).frozen? ⟨(u3.heap.size + 1), 4, none⟩ = false := q2.f 4 (by simp)
  have xz := q1.2.2
  have yz := q2.2.2
  clear q1 q2
  have t1 : IntKind.i64.wrap x = x := IntWalk.i64_in _ (by omega)
  have t2 : wrap64 x = x := IntWalk.wrap64_in _ (by omega)
  have t3 : x.tmod 5 = 2 := hK.out
  have t4 : wrap64 (x.tmod 5) = 2 := by rw [hK.out]; exact IntWalk.wrap64_in _ (by omega)
  have t5 : IntKind.i64.wrap (x.tmod 5) = 2 := by rw [hK.out]; exact IntWalk.i64_in _ (by omega)
  go_wp2_with fail
  clear xpm0 xpm1 xpm2 xpm3 xpm4 zpm x0 y0 z0 x1 y1 z1 x2 y2 z2 x3 y3 z3 x4 y4 z4 xz yz
  have H20 := Lib.hid (H15.out.step (al (u3.alloc (.cells #[.int .i64 M1.v, .int .i64 M1.c, .int .i64 M1.s, .int .i64 M1.r, .int .i64 M1.t, .slice uba n1 ubc] 27)) (.cells #[.int .i64 M.v, .int .i64 M.c, .int .i64 number, .int .i64 M.r, .int .i64 M.t] 24)))
  clear H15
  have H21 := Lib.hid (H16.out.step (al (u3.alloc (.cells #[.int .i64 M1.v, .int .i64 M1.c, .int .i64 M1.s, .int .i64 M1.r, .int .i64 M1.t, .slice uba n1 ubc] 27)) (.cells #[.int .i64 M.v, .int .i64 M.c, .int .i64 number, .int .i64 M.r, .int .i64 M.t] 24)))
  clear H16
  have H22 := Lib.hid (H17.out.step (al (u3.alloc (.cells #[.int .i64 M1.v, .int .i64 M1.c, .int .i64 M1.s, .int .i64 M1.r, .int .i64 M1.t, .slice uba n1 ubc] 27)) (.cells #[.int .i64 M.v, .int .i64 M.c, .int .i64 number, .int .i64 M.r, .int .i64 M.t] 24)))
  clear H17
  have H23 := Lib.hid (H19.out.step (al (u3.alloc (.cells #[.int .i64 M1.v, .int .i64 M1.c, .int .i64 M1.s, .int .i64 M1.r, .int .i64 M1.t, .slice uba n1 ubc] 27)) (.cells #[.int .i64 M.v, .int .i64 M.c, .int .i64 number, .int .i64 M.r, .int .i64 M.t] 24)))
  clear H19
  have H24 := Lib.hid (keep2 (al (u3.alloc (.cells #[.int .i64 M1.v, .int .i64 M1.c, .int .i64 M1.s, .int .i64 M1.r, .int .i64 M1.t, .slice uba n1 ubc] 27)) (.cells #[.int .i64 M.v, .int .i64 M.c, .int .i64 number, .int .i64 M.r, .int .i64 M.t] 24)) H18.out)
  clear H18
  have H25 := Lib.hid (Cs.new (u3.alloc (.cells #[.int .i64 M1.v, .int .i64 M1.c, .int .i64 M1.s, .int .i64 M1.r, .int .i64 M1.t, .slice uba n1 ubc] 27)) (u3.heap.size + 1) #[.int .i64 M.v, .int .i64 M.c, .int .i64 number, .int .i64 M.r, .int .i64 M.t] 24 (by simp))
  clear t1 t2 t3 t4 t5
  obtain ⟨MX, hMX⟩ : ∃ z, chM 2 number M = z := ⟨_, rfl⟩
  obtain ⟨E2, hE2⟩ : ∃ z, bgE key 0 (chM 2 number M) = z := ⟨_, rfl⟩
  obtain ⟨M2, hM2⟩ : ∃ z, bgM E2 (chM 2 number M) = z := ⟨_, rfl⟩
  obtain ⟨L2, hL2⟩ : ∃ z, bgL E2 (chM 2 number M) = z := ⟨_, rfl⟩
  clear hMX MX
  obtain ⟨B2, hB2⟩ : ∃ b, decide (number = M.s) = b := ⟨_, rfl⟩
  have HE2 := Lib.hid (show E2 = 0 ↔ number = M.s by rw [← hE2, ← hM.out]; exact bg_changed hE.out 2)
  replace hB2 := Lib.hid hB2
  have HL2 := Lib.hid (show E2 ≠ 0 → L2 = [] from fun q => by rw [← hL2]; exact if_neg q)
  refine (begin_any key 0 (chM 2 number M) hE2 hM2 hL2 _).mono ?_
  rintro e u4 ⟨sw, rfl, hu3, b4⟩
  have H26 := Lib.hid (H20.out.step b4)
  clear H20
  have H27 := Lib.hid (H21.out.step b4)
  clear H21
  have H28 := Lib.hid (H22.out.step b4)
  clear H22
  have H29 := Lib.hid (H23.out.step b4)
  clear H23
  have H30 := Lib.hid (H25.out.step b4)
  clear H25
  have H31 := Lib.hid (keep2 b4 H24.out)
  clear H24
  clear b4
  clear hE2 hM2 hL2
  obtain ⟨n2, wba, wbc, rfl, hn2⟩ : ∃ (n : Nat) (a : Option Addr) (c : Nat), sw = .slice a n c ∧ n = L2.length := by
    obtain ⟨a, c, e, -⟩ := hu3
    exact ⟨_, a, c, e, rfl⟩
  clear hu3
  replace hn2 := Lib.hid hn2
  have H32 := Lib.hid (H26.out.step (al u4 (.cells #[.int .i64 M2.v, .int .i64 M2.c, .int .i64 M2.s, .int .i64 M2.r, .int .i64 M2.t, .slice wba n2 wbc] 27)))
  clear H26
  have H33 := Lib.hid (H27.out.step (al u4 (.cells #[.int .i64 M2.v, .int .i64 M2.c, .int .i64 M2.s, .int .i64 M2.r, .int .i64 M2.t, .slice wba n2 wbc] 27)))
  clear H27
  have H34 := Lib.hid (H28.out.step (al u4 (.cells #[.int .i64 M2.v, .int .i64 M2.c, .int .i64 M2.s, .int .i64 M2.r, .int .i64 M2.t, .slice wba n2 wbc] 27)))
  clear H28
  have H35 := Lib.hid (H29.out.step (al u4 (.cells #[.int .i64 M2.v, .int .i64 M2.c, .int .i64 M2.s, .int .i64 M2.r, .int .i64 M2.t, .slice wba n2 wbc] 27)))
  clear H29
  have H36 := Lib.hid (H30.out.step (al u4 (.cells #[.int .i64 M2.v, .int .i64 M2.c, .int .i64 M2.s, .int .i64 M2.r, .int .i64 M2.t, .slice wba n2 wbc] 27)))
  clear H30
  have H37 := Lib.hid (keep2 (al u4 (.cells #[.int .i64 M2.v, .int .i64 M2.c, .int .i64 M2.s, .int .i64 M2.r, .int .i64 M2.t, .slice wba n2 wbc] 27)) H31.out)
  clear H31
  have H38 := Lib.hid (Cs.new u4 (u4.heap.size) #[.int .i64 M2.v, .int .i64 M2.c, .int .i64 M2.s, .int .i64 M2.r, .int .i64 M2.t, .slice wba n2 wbc] 27 (by simp))
  have xb0 : (u4.alloc (.cells #[.int .i64 M2.v, .int .i64 M2.c, .int .i64 M2.s, .int .i64 M2.r, .int .i64 M2.t, .slice wba n2 wbc] 27)).cell? ⟨(u3.heap.size + 1), 0, none⟩ = some (.int .i64 M.v) := H36.out.c 0 rfl
  have xb1 : (u4.alloc (.cells #[.int .i64 M2.v, .int .i64 M2.c, .int .i64 M2.s, .int .i64 M2.r, .int .i64 M2.t, .slice wba n2 wbc] 27)).cell? ⟨(u3.heap.size + 1), 1, none⟩ = some (.int .i64 M.c) := H36.out.c 1 rfl
  have xb2 : (u4.alloc (.cells #[.int .i64 M2.v, .int .i64 M2.c, .int .i64 M2.s, .int .i64 M2.r, .int .i64 M2.t, .slice wba n2 wbc] 27)).cell? ⟨(u3.heap.size + 1), 2, none⟩ = some (.int .i64 number) := H36.out.c 2 rfl
  have xb3 : (u4.alloc (.cells #[.int .i64 M2.v, .int .i64 M2.c, .int .i64 M2.s, .int .i64 M2.r, .int .i64 M2.t, .slice wba n2 wbc] 27)).cell? ⟨(u3.heap.size + 1), 3, none⟩ = some (.int .i64 M.r) := H36.out.c 3 rfl
  have xb4 : (u4.alloc (.cells #[.int .i64 M2.v, .int .i64 M2.c, .int .i64 M2.s, .int .i64 M2.r, .int .i64 M2.t, .slice wba n2 wbc] 27)).cell? ⟨(u3.heap.size + 1), 4, none⟩ = some (.int .i64 M.t) := H36.out.c 4 rfl
  have zb : (u3.heap.size + 1) < (u4.alloc (.cells #[.int .i64 M2.v, .int .i64 M2.c, .int .i64 M2.s, .int .i64 M2.r, .int .i64 M2.t, .slice wba n2 wbc] 27)).heap.size := H36.out.2.2
  have xm0 : (u4.alloc (.cells #[.int .i64 M2.v, .int .i64 M2.c, .int .i64 M2.s, .int .i64 M2.r, .int .i64 M2.t, .slice wba n2 wbc] 27)).cell? ⟨(u2.heap.size), 0, none⟩ = some (.int .i64 M.v) := H34.out.c 0 rfl
  have xm1 : (u4.alloc (.cells #[.int .i64 M2.v, .int .i64 M2.c, .int .i64 M2.s, .int .i64 M2.r, .int .i64 M2.t, .slice wba n2 wbc] 27)).cell? ⟨(u2.heap.size), 1, none⟩ = some (.int .i64 M.c) := H34.out.c 1 rfl
  have xm2 : (u4.alloc (.cells #[.int .i64 M2.v, .int .i64 M2.c, .int .i64 M2.s, .int .i64 M2.r, .int .i64 M2.t, .slice wba n2 wbc] 27)).cell? ⟨(u2.heap.size), 2, none⟩ = some (.int .i64 M.s) := H34.out.c 2 rfl
  have xm3 : (u4.alloc (.cells #[.int .i64 M2.v, .int .i64 M2.c, .int .i64 M2.s, .int .i64 M2.r, .int .i64 M2.t, .slice wba n2 wbc] 27)).cell? ⟨(u2.heap.size), 3, none⟩ = some (.int .i64 M.r) := H34.out.c 3 rfl
  have xm4 : (u4.alloc (.cells #[.int .i64 M2.v, .int .i64 M2.c, .int .i64 M2.s, .int .i64 M2.r, .int .i64 M2.t, .slice wba n2 wbc] 27)).cell? ⟨(u2.heap.size), 4, none⟩ = some (.int .i64 M.t) := H34.out.c 4 rfl
  have zm : (u2.heap.size) < (u4.alloc (.cells #[.int .i64 M2.v, .int .i64 M2.c, .int .i64 M2.s, .int .i64 M2.r, .int .i64 M2.t, .slice wba n2 wbc] 27)).heap.size := H34.out.2.2
  have xt0 : (u4.alloc (.cells #[.int .i64 M2.v, .int .i64 M2.c, .int .i64 M2.s, .int .i64 M2.r, .int .i64 M2.t, .slice wba n2 wbc] 27)).cell? ⟨(u4.heap.size), 0, none⟩ = some (.int .i64 M2.v) := H38.out.c 0 rfl
  have xt1 : (u4.alloc (.cells #[.int .i64 M2.v, .int .i64 M2.c, .int .i64 M2.s, .int .i64 M2.r, .int .i64 M2.t, .slice wba n2 wbc] 27)).cell? ⟨(u4.heap.size), 1, none⟩ = some (.int .i64 M2.c) := H38.out.c 1 rfl
  have xt2 : (u4.alloc (.cells #[.int .i64 M2.v, .int .i64 M2.c, .int .i64 M2.s, .int .i64 M2.r, .int .i64 M2.t, .slice wba n2 wbc] 27)).cell? ⟨(u4.heap.size), 2, none⟩ = some (.int .i64 M2.s) := H38.out.c 2 rfl
  have xt3 : (u4.alloc (.cells #[.int .i64 M2.v, .int .i64 M2.c, .int .i64 M2.s, .int .i64 M2.r, .int .i64 M2.t, .slice wba n2 wbc] 27)).cell? ⟨(u4.heap.size), 3, none⟩ = some (.int .i64 M2.r) := H38.out.c 3 rfl
  have xt4 : (u4.alloc (.cells #[.int .i64 M2.v, .int .i64 M2.c, .int .i64 M2.s, .int .i64 M2.r, .int .i64 M2.t, .slice wba n2 wbc] 27)).cell? ⟨(u4.heap.size), 4, none⟩ = some (.int .i64 M2.t) := H38.out.c 4 rfl
  have xt5 : (u4.alloc (.cells #[.int .i64 M2.v, .int .i64 M2.c, .int .i64 M2.s, .int .i64 M2.r, .int .i64 M2.t, .slice wba n2 wbc] 27)).cell? ⟨(u4.heap.size), 5, none⟩ = some (.slice wba n2 wbc) := H38.out.c 5 rfl
  have zt : (u4.heap.size) < (u4.alloc (.cells #[.int .i64 M2.v, .int .i64 M2.c, .int .i64 M2.s, .int .i64 M2.r, .int .i64 M2.t, .slice wba n2 wbc] 27)).heap.size := H38.out.2.2
  have q24 := fun (W : World) => eq_ch2 M number W
  rw [hB2.out] at q24
  cases B1
  · cases B2
    · skip
      have f1 : ¬ other = key := by simpa using hB1.out
      have f2 : ¬ E1 = 0 := fun q => f1 (HE1.out.1 q)
      have f3 : (E1 == 0) = false := by simpa using f2
      have f4 : (other == key) = false := by simpa using f1
      have f5 : (E1 = 0) = False := by simpa using f2
      have f6 : (other = key) = False := by simpa using f1
      have g2 : ¬ E2 = 0 := fun q => (show ¬ number = M.s by simpa using hB2.out) (HE2.out.1 q)
      have g3 : (E2 == 0) = false := by simpa using g2
      have g5 : (E2 = 0) = False := by simpa using g2
      obtain rfl : n2 = 0 := by rw [hn2.out, HL2.out g2]; rfl
      go_wp2
      go_ret
      exact ⟨rfl, H37.out⟩
    · skip
      have f1 : ¬ other = key := by simpa using hB1.out
      have f2 : ¬ E1 = 0 := fun q => f1 (HE1.out.1 q)
      have f3 : (E1 == 0) = false := by simpa using f2
      have f4 : (other == key) = false := by simpa using f1
      have f5 : (E1 = 0) = False := by simpa using f2
      have f6 : (other = key) = False := by simpa using f1
      have g2 : E2 = 0 := HE2.out.2 (by simpa using hB2.out)
      have g3 : (E2 == 0) = true := by simpa using g2
      have g5 : (E2 = 0) = True := by simpa using g2
      clear g2
      go_wp2
      go_ret
      exact ⟨rfl, H37.out⟩
  · cases B2
    · skip
      have f1 : other = key := by simpa using hB1.out
      have f2 : E1 = 0 := HE1.out.2 f1
      have f3 : (E1 == 0) = true := by simpa using f2
      have f4 : (other == key) = true := by simpa using f1
      have f5 : (E1 = 0) = True := by simpa using f2
      have f6 : (other = key) = True := by simpa using f1
      clear f1 f2
      have g2 : ¬ E2 = 0 := fun q => (show ¬ number = M.s by simpa using hB2.out) (HE2.out.1 q)
      have g3 : (E2 == 0) = false := by simpa using g2
      have g5 : (E2 = 0) = False := by simpa using g2
      obtain rfl : n2 = 0 := by rw [hn2.out, HL2.out g2]; rfl
      go_wp2
      go_ret
      exact ⟨rfl, H37.out⟩
    · skip
      have f1 : other = key := by simpa using hB1.out
      have f2 : E1 = 0 := HE1.out.2 f1
      have f3 : (E1 == 0) = true := by simpa using f2
      have f4 : (other == key) = true := by simpa using f1
      have f5 : (E1 = 0) = True := by simpa using f2
      have f6 : (other = key) = True := by simpa using f1
      clear f1 f2
      have g2 : E2 = 0 := HE2.out.2 (by simpa using hB2.out)
      have g3 : (E2 == 0) = true := by simpa using g2
      have g5 : (E2 = 0) = True := by simpa using g2
      clear g2
      go_wp2
      go_ret
      exact ⟨rfl, H37.out⟩
set_option maxRecDepth 100000 in
set_option maxHeartbeats 8000000 in
theorem man_3 (key ver s : Int) (v : Value) (D : List Int) (other x number : Int) (w : World) (h : IntsAt w v D) (hcp : ∀ a n c, v = .slice a n c → n ≤ c) (hx0 : 0 ≤ x) (hx1 : x ≤ 255) (hL : D.length ≤ 200) (hE : spE key ver s D = 0) (hK : x.tmod 5 = 3) : Calls Try.prog 6 #[.int .i64 key, .int .i64 ver, .int .i64 s, v, .int .i64 other, .int .u8 x, .int .i64 number] w fun e w' => e = .returned (.bool true) ∧ Below w.heap.size w w' := by
  have H0 := Lib.hid (Below.refl w.heap.size w)
  have H1 := Lib.hid (h)
  replace hL := Lib.hid hL
  replace hE := Lib.hid hE
  replace hK := Lib.hid hK
  obtain ⟨va, vc, rfl, hm, -⟩ := h
  unfold maxLen at hm
  replace hm := Lib.hid hm
  replace hcp := Lib.hid (hcp _ _ _ rfl)
  go_enter Try.func6, Try.ntmps6
  go_wp2_with fail
  refine (head_any _).mono ?_
  rintro e u1 ⟨rfl, b1⟩
  have H2 := Lib.hid (H1.out.step b1)
  clear H1
  have H3 := Lib.hid (keep2 b1 H0.out)
  clear H0
  clear b1
  go_wp2_with fail
  obtain ⟨M, hM⟩ : ∃ z, spM key ver s D 0 = z := ⟨_, rfl⟩
  obtain ⟨l, hl⟩ : ∃ z, spL s D 0 = z := ⟨_, rfl⟩
  replace hM := Lib.hid hM
  replace hl := Lib.hid hl
  refine (split_any key ver s va vc D _ H2.out (by have := hm.out; omega) hcp.out hE.out hM.out hl.out).mono ?_
  rintro e u2 ⟨pv, rfl, hu, b2⟩
  have H4 := Lib.hid (H2.out.step b2)
  clear H2
  have H5 := Lib.hid (keep2 b2 H3.out)
  clear H3
  clear b2
  obtain ⟨ua, uc, rfl, -, -⟩ : ∃ (a : Option Addr) (c : Nat), pv = .slice a l.length c ∧ True ∧ True := by
    obtain ⟨a, c, e, -⟩ := hu
    exact ⟨a, c, e, trivial, trivial⟩
  have H6 := Lib.hid (hu)
  clear hu
  have H7 := Lib.hid (H4.out.step (al u2 (.cells #[.int .i64 M.v, .int .i64 M.c, .int .i64 M.s, .int .i64 M.r, .int .i64 M.t] 24)))
  clear H4
  have H8 := Lib.hid (H6.out.step (al u2 (.cells #[.int .i64 M.v, .int .i64 M.c, .int .i64 M.s, .int .i64 M.r, .int .i64 M.t] 24)))
  clear H6
  have H9 := Lib.hid (keep2 (al u2 (.cells #[.int .i64 M.v, .int .i64 M.c, .int .i64 M.s, .int .i64 M.r, .int .i64 M.t] 24)) H5.out)
  clear H5
  have H10 := Lib.hid (Cs.new u2 (u2.heap.size) #[.int .i64 M.v, .int .i64 M.c, .int .i64 M.s, .int .i64 M.r, .int .i64 M.t] 24 (by simp))
  have xm0 : (u2.alloc (.cells #[.int .i64 M.v, .int .i64 M.c, .int .i64 M.s, .int .i64 M.r, .int .i64 M.t] 24)).cell? ⟨(u2.heap.size), 0, none⟩ = some (.int .i64 M.v) := H10.out.c 0 rfl
  have xm1 : (u2.alloc (.cells #[.int .i64 M.v, .int .i64 M.c, .int .i64 M.s, .int .i64 M.r, .int .i64 M.t] 24)).cell? ⟨(u2.heap.size), 1, none⟩ = some (.int .i64 M.c) := H10.out.c 1 rfl
  have xm2 : (u2.alloc (.cells #[.int .i64 M.v, .int .i64 M.c, .int .i64 M.s, .int .i64 M.r, .int .i64 M.t] 24)).cell? ⟨(u2.heap.size), 2, none⟩ = some (.int .i64 M.s) := H10.out.c 2 rfl
  have xm3 : (u2.alloc (.cells #[.int .i64 M.v, .int .i64 M.c, .int .i64 M.s, .int .i64 M.r, .int .i64 M.t] 24)).cell? ⟨(u2.heap.size), 3, none⟩ = some (.int .i64 M.r) := H10.out.c 3 rfl
  have xm4 : (u2.alloc (.cells #[.int .i64 M.v, .int .i64 M.c, .int .i64 M.s, .int .i64 M.r, .int .i64 M.t] 24)).cell? ⟨(u2.heap.size), 4, none⟩ = some (.int .i64 M.t) := H10.out.c 4 rfl
  have zm : (u2.heap.size) < (u2.alloc (.cells #[.int .i64 M.v, .int .i64 M.c, .int .i64 M.s, .int .i64 M.r, .int .i64 M.t] 24)).heap.size := H10.out.2.2
  have g1 : decide ((D.length : Int) > 200) = false := by simp; have := hL.out; omega
  have g1b : decide ((200 : Int) < (D.length : Int)) = false := by simp; have := hL.out; omega
  go_wp2_with fail
  obtain ⟨B1, hB1⟩ : ∃ b, decide (other = key) = b := ⟨_, rfl⟩
  obtain ⟨E1, hE1⟩ : ∃ z, bgE other 0 M = z := ⟨_, rfl⟩
  obtain ⟨M1, hM1⟩ : ∃ z, bgM E1 M = z := ⟨_, rfl⟩
  obtain ⟨L1, hL1⟩ : ∃ z, bgL E1 M = z := ⟨_, rfl⟩
  have HE1 := Lib.hid (show E1 = 0 ↔ other = key by rw [← hE1, ← hM.out]; exact bg_other hE.out)
  replace hB1 := Lib.hid hB1
  refine (begin_any other 0 M hE1 hM1 hL1 _).mono ?_
  rintro e u3 ⟨sv, rfl, hu2, b3⟩
  clear xm0 xm1 xm2 xm3 xm4 zm
  have H11 := Lib.hid (H7.out.step b3)
  clear H7
  have H12 := Lib.hid (H8.out.step b3)
  clear H8
  have H13 := Lib.hid (H10.out.step b3)
  clear H10
  have H14 := Lib.hid (keep2 b3 H9.out)
  clear H9
  clear b3
  clear hE1 hM1 hL1
  have HS9 := Lib.hid (H14.out.size)
  have HS8 := Lib.hid (H13.out.2.2)
  obtain ⟨n1, uba, ubc, rfl, -⟩ : ∃ (n : Nat) (a : Option Addr) (c : Nat), sv = .slice a n c ∧ True := by
    obtain ⟨a, c, e, -⟩ := hu2
    exact ⟨_, a, c, e, trivial⟩
  clear hu2
  have H15 := Lib.hid (H11.out.step (al u3 (.cells #[.int .i64 M1.v, .int .i64 M1.c, .int .i64 M1.s, .int .i64 M1.r, .int .i64 M1.t, .slice uba n1 ubc] 27)))
  clear H11
  have H16 := Lib.hid (H12.out.step (al u3 (.cells #[.int .i64 M1.v, .int .i64 M1.c, .int .i64 M1.s, .int .i64 M1.r, .int .i64 M1.t, .slice uba n1 ubc] 27)))
  clear H12
  have H17 := Lib.hid (H13.out.step (al u3 (.cells #[.int .i64 M1.v, .int .i64 M1.c, .int .i64 M1.s, .int .i64 M1.r, .int .i64 M1.t, .slice uba n1 ubc] 27)))
  clear H13
  have H18 := Lib.hid (keep2 (al u3 (.cells #[.int .i64 M1.v, .int .i64 M1.c, .int .i64 M1.s, .int .i64 M1.r, .int .i64 M1.t, .slice uba n1 ubc] 27)) H14.out)
  clear H14
  have H19 := Lib.hid (Cs.new u3 (u3.heap.size) #[.int .i64 M1.v, .int .i64 M1.c, .int .i64 M1.s, .int .i64 M1.r, .int .i64 M1.t, .slice uba n1 ubc] 27 (by simp))
  have xpm0 : (u3.alloc (.cells #[.int .i64 M1.v, .int .i64 M1.c, .int .i64 M1.s, .int .i64 M1.r, .int .i64 M1.t, .slice uba n1 ubc] 27)).cell? ⟨(u2.heap.size), 0, none⟩ = some (.int .i64 M.v) := H17.out.c 0 rfl
  have xpm1 : (u3.alloc (.cells #[.int .i64 M1.v, .int .i64 M1.c, .int .i64 M1.s, .int .i64 M1.r, .int .i64 M1.t, .slice uba n1 ubc] 27)).cell? ⟨(u2.heap.size), 1, none⟩ = some (.int .i64 M.c) := H17.out.c 1 rfl
  have xpm2 : (u3.alloc (.cells #[.int .i64 M1.v, .int .i64 M1.c, .int .i64 M1.s, .int .i64 M1.r, .int .i64 M1.t, .slice uba n1 ubc] 27)).cell? ⟨(u2.heap.size), 2, none⟩ = some (.int .i64 M.s) := H17.out.c 2 rfl
  have xpm3 : (u3.alloc (.cells #[.int .i64 M1.v, .int .i64 M1.c, .int .i64 M1.s, .int .i64 M1.r, .int .i64 M1.t, .slice uba n1 ubc] 27)).cell? ⟨(u2.heap.size), 3, none⟩ = some (.int .i64 M.r) := H17.out.c 3 rfl
  have xpm4 : (u3.alloc (.cells #[.int .i64 M1.v, .int .i64 M1.c, .int .i64 M1.s, .int .i64 M1.r, .int .i64 M1.t, .slice uba n1 ubc] 27)).cell? ⟨(u2.heap.size), 4, none⟩ = some (.int .i64 M.t) := H17.out.c 4 rfl
  have zpm : (u2.heap.size) < (u3.alloc (.cells #[.int .i64 M1.v, .int .i64 M1.c, .int .i64 M1.s, .int .i64 M1.r, .int .i64 M1.t, .slice uba n1 ubc] 27)).heap.size := H17.out.2.2
  have q1 := H17.out.step (al (u3.alloc (.cells #[.int .i64 M1.v, .int .i64 M1.c, .int .i64 M1.s, .int .i64 M1.r, .int .i64 M1.t, .slice uba n1 ubc] 27)) (.cells #[.int .i64 M.v, .int .i64 M.c, .int .i64 M.s, .int .i64 M.r, .int .i64 M.t] 24))
  have q2 := Cs.new (u3.alloc (.cells #[.int .i64 M1.v, .int .i64 M1.c, .int .i64 M1.s, .int .i64 M1.r, .int .i64 M1.t, .slice uba n1 ubc] 27)) (u3.heap.size + 1) #[.int .i64 M.v, .int .i64 M.c, .int .i64 M.s, .int .i64 M.r, .int .i64 M.t] 24 (by simp)
  have x0 : ((u3.alloc (.cells #[.int .i64 M1.v, .int .i64 M1.c, .int .i64 M1.s, .int .i64 M1.r, .int .i64 M1.t, .slice uba n1 ubc] 27)).alloc (.cells #[.int .i64 M.v, .int .i64 M.c, .int .i64 M.s, .int .i64 M.r, .int .i64 M.t] 24)).cell? ⟨(u2.heap.size), 0, none⟩ = some (.int .i64 M.v) := q1.c 0 rfl
  have z0 : ((u3.alloc (.cells #[.int .i64 M1.v, .int .i64 M1.c, .int .i64 M1.s, .int .i64 M1.r, .int .i64 M1.t, .slice uba n1 ubc] 27)).alloc (.cells #[.int .i64 M.v, .int .i64 M.c, .int .i64 M.s, .int .i64 M.r, .int .i64 M.t] 24)).cell? ⟨(u3.heap.size + 1), 0, none⟩ = some (.int .i64 M.v) := q2.c 0 rfl
  have y0 : ((u3.alloc (.cells #[.int .i64 M1.v, .int .i64 M1.c, .int .i64 M1.s, .int .i64 M1.r, .int .i64 M1.t, .slice uba n1 ubc] 27)).alloc (.cells #[.int .i64 M.v, .int .i64 M.c, .int .i64 M.s, .int .i64 M.r, .int .i64 M.t] 24)).frozen? ⟨(u3.heap.size + 1), 0, none⟩ = false := q2.f 0 (by simp)
  have x1 : ((u3.alloc (.cells #[.int .i64 M1.v, .int .i64 M1.c, .int .i64 M1.s, .int .i64 M1.r, .int .i64 M1.t, .slice uba n1 ubc] 27)).alloc (.cells #[.int .i64 M.v, .int .i64 M.c, .int .i64 M.s, .int .i64 M.r, .int .i64 M.t] 24)).cell? ⟨(u2.heap.size), 1, none⟩ = some (.int .i64 M.c) := q1.c 1 rfl
  have z1 : ((u3.alloc (.cells #[.int .i64 M1.v, .int .i64 M1.c, .int .i64 M1.s, .int .i64 M1.r, .int .i64 M1.t, .slice uba n1 ubc] 27)).alloc (.cells #[.int .i64 M.v, .int .i64 M.c, .int .i64 M.s, .int .i64 M.r, .int .i64 M.t] 24)).cell? ⟨(u3.heap.size + 1), 1, none⟩ = some (.int .i64 M.c) := q2.c 1 rfl
  have y1 : ((u3.alloc (.cells #[.int .i64 M1.v, .int .i64 M1.c, .int .i64 M1.s, .int .i64 M1.r, .int .i64 M1.t, .slice uba n1 ubc] 27)).alloc (.cells #[.int .i64 M.v, .int .i64 M.c, .int .i64 M.s, .int .i64 M.r, .int .i64 M.t] 24)).frozen? ⟨(u3.heap.size + 1), 1, none⟩ = false := q2.f 1 (by simp)
  have x2 : ((u3.alloc (.cells #[.int .i64 M1.v, .int .i64 M1.c, .int .i64 M1.s, .int .i64 M1.r, .int .i64 M1.t, .slice uba n1 ubc] 27)).alloc (.cells #[.int .i64 M.v, .int .i64 M.c, .int .i64 M.s, .int .i64 M.r, .int .i64 M.t] 24)).cell? ⟨(u2.heap.size), 2, none⟩ = some (.int .i64 M.s) := q1.c 2 rfl
  have z2 : ((u3.alloc (.cells #[.int .i64 M1.v, .int .i64 M1.c, .int .i64 M1.s, .int .i64 M1.r, .int .i64 M1.t, .slice uba n1 ubc] 27)).alloc (.cells #[.int .i64 M.v, .int .i64 M.c, .int .i64 M.s, .int .i64 M.r, .int .i64 M.t] 24)).cell? ⟨(u3.heap.size + 1), 2, none⟩ = some (.int .i64 M.s) := q2.c 2 rfl
  have y2 : ((u3.alloc (.cells #[.int .i64 M1.v, .int .i64 M1.c, .int .i64 M1.s, .int .i64 M1.r, .int .i64 M1.t, .slice uba n1 ubc] 27)).alloc (.cells #[.int .i64 M.v, .int .i64 M.c, .int .i64 M.s, .int .i64 M.r, .int .i64 M.t] 24)).frozen? ⟨(u3.heap.size + 1), 2, none⟩ = false := q2.f 2 (by simp)
  have x3 : ((u3.alloc (.cells #[.int .i64 M1.v, .int .i64 M1.c, .int .i64 M1.s, .int .i64 M1.r, .int .i64 M1.t, .slice uba n1 ubc] 27)).alloc (.cells #[.int .i64 M.v, .int .i64 M.c, .int .i64 M.s, .int .i64 M.r, .int .i64 M.t] 24)).cell? ⟨(u2.heap.size), 3, none⟩ = some (.int .i64 M.r) := q1.c 3 rfl
  have z3 : ((u3.alloc (.cells #[.int .i64 M1.v, .int .i64 M1.c, .int .i64 M1.s, .int .i64 M1.r, .int .i64 M1.t, .slice uba n1 ubc] 27)).alloc (.cells #[.int .i64 M.v, .int .i64 M.c, .int .i64 M.s, .int .i64 M.r, .int .i64 M.t] 24)).cell? ⟨(u3.heap.size + 1), 3, none⟩ = some (.int .i64 M.r) := q2.c 3 rfl
  have y3 : ((u3.alloc (.cells #[.int .i64 M1.v, .int .i64 M1.c, .int .i64 M1.s, .int .i64 M1.r, .int .i64 M1.t, .slice uba n1 ubc] 27)).alloc (.cells #[.int .i64 M.v, .int .i64 M.c, .int .i64 M.s, .int .i64 M.r, .int .i64 M.t] 24)).frozen? ⟨(u3.heap.size + 1), 3, none⟩ = false := q2.f 3 (by simp)
  have x4 : ((u3.alloc (.cells #[.int .i64 M1.v, .int .i64 M1.c, .int .i64 M1.s, .int .i64 M1.r, .int .i64 M1.t, .slice uba n1 ubc] 27)).alloc (.cells #[.int .i64 M.v, .int .i64 M.c, .int .i64 M.s, .int .i64 M.r, .int .i64 M.t] 24)).cell? ⟨(u2.heap.size), 4, none⟩ = some (.int .i64 M.t) := q1.c 4 rfl
  have z4 : ((u3.alloc (.cells #[.int .i64 M1.v, .int .i64 M1.c, .int .i64 M1.s, .int .i64 M1.r, .int .i64 M1.t, .slice uba n1 ubc] 27)).alloc (.cells #[.int .i64 M.v, .int .i64 M.c, .int .i64 M.s, .int .i64 M.r, .int .i64 M.t] 24)).cell? ⟨(u3.heap.size + 1), 4, none⟩ = some (.int .i64 M.t) := q2.c 4 rfl
  have y4 : ((u3.alloc (.cells #[.int .i64 M1.v, .int .i64 M1.c, .int .i64 M1.s, .int .i64 M1.r, .int .i64 M1.t, .slice uba n1 ubc] 27)).alloc (.cells #[.int .i64 M.v, .int .i64 M.c, .int .i64 M.s, .int .i64 M.r, .int .i64 M.t] 24)).frozen? ⟨(u3.heap.size + 1), 4, none⟩ = false := q2.f 4 (by simp)
  have xz := q1.2.2
  have yz := q2.2.2
  clear q1 q2
  have t1 : IntKind.i64.wrap x = x := IntWalk.i64_in _ (by omega)
  have t2 : wrap64 x = x := IntWalk.wrap64_in _ (by omega)
  have t3 : x.tmod 5 = 3 := hK.out
  have t4 : wrap64 (x.tmod 5) = 3 := by rw [hK.out]; exact IntWalk.wrap64_in _ (by omega)
  have t5 : IntKind.i64.wrap (x.tmod 5) = 3 := by rw [hK.out]; exact IntWalk.i64_in _ (by omega)
  go_wp2_with fail
  clear xpm0 xpm1 xpm2 xpm3 xpm4 zpm x0 y0 z0 x1 y1 z1 x2 y2 z2 x3 y3 z3 x4 y4 z4 xz yz
  have H20 := Lib.hid (H15.out.step (al (u3.alloc (.cells #[.int .i64 M1.v, .int .i64 M1.c, .int .i64 M1.s, .int .i64 M1.r, .int .i64 M1.t, .slice uba n1 ubc] 27)) (.cells #[.int .i64 M.v, .int .i64 M.c, .int .i64 M.s, .int .i64 number, .int .i64 M.t] 24)))
  clear H15
  have H21 := Lib.hid (H16.out.step (al (u3.alloc (.cells #[.int .i64 M1.v, .int .i64 M1.c, .int .i64 M1.s, .int .i64 M1.r, .int .i64 M1.t, .slice uba n1 ubc] 27)) (.cells #[.int .i64 M.v, .int .i64 M.c, .int .i64 M.s, .int .i64 number, .int .i64 M.t] 24)))
  clear H16
  have H22 := Lib.hid (H17.out.step (al (u3.alloc (.cells #[.int .i64 M1.v, .int .i64 M1.c, .int .i64 M1.s, .int .i64 M1.r, .int .i64 M1.t, .slice uba n1 ubc] 27)) (.cells #[.int .i64 M.v, .int .i64 M.c, .int .i64 M.s, .int .i64 number, .int .i64 M.t] 24)))
  clear H17
  have H23 := Lib.hid (H19.out.step (al (u3.alloc (.cells #[.int .i64 M1.v, .int .i64 M1.c, .int .i64 M1.s, .int .i64 M1.r, .int .i64 M1.t, .slice uba n1 ubc] 27)) (.cells #[.int .i64 M.v, .int .i64 M.c, .int .i64 M.s, .int .i64 number, .int .i64 M.t] 24)))
  clear H19
  have H24 := Lib.hid (keep2 (al (u3.alloc (.cells #[.int .i64 M1.v, .int .i64 M1.c, .int .i64 M1.s, .int .i64 M1.r, .int .i64 M1.t, .slice uba n1 ubc] 27)) (.cells #[.int .i64 M.v, .int .i64 M.c, .int .i64 M.s, .int .i64 number, .int .i64 M.t] 24)) H18.out)
  clear H18
  have H25 := Lib.hid (Cs.new (u3.alloc (.cells #[.int .i64 M1.v, .int .i64 M1.c, .int .i64 M1.s, .int .i64 M1.r, .int .i64 M1.t, .slice uba n1 ubc] 27)) (u3.heap.size + 1) #[.int .i64 M.v, .int .i64 M.c, .int .i64 M.s, .int .i64 number, .int .i64 M.t] 24 (by simp))
  clear t1 t2 t3 t4 t5
  obtain ⟨MX, hMX⟩ : ∃ z, chM 3 number M = z := ⟨_, rfl⟩
  obtain ⟨E2, hE2⟩ : ∃ z, bgE key 0 (chM 3 number M) = z := ⟨_, rfl⟩
  obtain ⟨M2, hM2⟩ : ∃ z, bgM E2 (chM 3 number M) = z := ⟨_, rfl⟩
  obtain ⟨L2, hL2⟩ : ∃ z, bgL E2 (chM 3 number M) = z := ⟨_, rfl⟩
  clear hMX MX
  obtain ⟨B2, hB2⟩ : ∃ b, decide (number = M.r) = b := ⟨_, rfl⟩
  have HE2 := Lib.hid (show E2 = 0 ↔ number = M.r by rw [← hE2, ← hM.out]; exact bg_changed hE.out 3)
  replace hB2 := Lib.hid hB2
  have HL2 := Lib.hid (show E2 ≠ 0 → L2 = [] from fun q => by rw [← hL2]; exact if_neg q)
  refine (begin_any key 0 (chM 3 number M) hE2 hM2 hL2 _).mono ?_
  rintro e u4 ⟨sw, rfl, hu3, b4⟩
  have H26 := Lib.hid (H20.out.step b4)
  clear H20
  have H27 := Lib.hid (H21.out.step b4)
  clear H21
  have H28 := Lib.hid (H22.out.step b4)
  clear H22
  have H29 := Lib.hid (H23.out.step b4)
  clear H23
  have H30 := Lib.hid (H25.out.step b4)
  clear H25
  have H31 := Lib.hid (keep2 b4 H24.out)
  clear H24
  clear b4
  clear hE2 hM2 hL2
  obtain ⟨n2, wba, wbc, rfl, hn2⟩ : ∃ (n : Nat) (a : Option Addr) (c : Nat), sw = .slice a n c ∧ n = L2.length := by
    obtain ⟨a, c, e, -⟩ := hu3
    exact ⟨_, a, c, e, rfl⟩
  clear hu3
  replace hn2 := Lib.hid hn2
  have H32 := Lib.hid (H26.out.step (al u4 (.cells #[.int .i64 M2.v, .int .i64 M2.c, .int .i64 M2.s, .int .i64 M2.r, .int .i64 M2.t, .slice wba n2 wbc] 27)))
  clear H26
  have H33 := Lib.hid (H27.out.step (al u4 (.cells #[.int .i64 M2.v, .int .i64 M2.c, .int .i64 M2.s, .int .i64 M2.r, .int .i64 M2.t, .slice wba n2 wbc] 27)))
  clear H27
  have H34 := Lib.hid (H28.out.step (al u4 (.cells #[.int .i64 M2.v, .int .i64 M2.c, .int .i64 M2.s, .int .i64 M2.r, .int .i64 M2.t, .slice wba n2 wbc] 27)))
  clear H28
  have H35 := Lib.hid (H29.out.step (al u4 (.cells #[.int .i64 M2.v, .int .i64 M2.c, .int .i64 M2.s, .int .i64 M2.r, .int .i64 M2.t, .slice wba n2 wbc] 27)))
  clear H29
  have H36 := Lib.hid (H30.out.step (al u4 (.cells #[.int .i64 M2.v, .int .i64 M2.c, .int .i64 M2.s, .int .i64 M2.r, .int .i64 M2.t, .slice wba n2 wbc] 27)))
  clear H30
  have H37 := Lib.hid (keep2 (al u4 (.cells #[.int .i64 M2.v, .int .i64 M2.c, .int .i64 M2.s, .int .i64 M2.r, .int .i64 M2.t, .slice wba n2 wbc] 27)) H31.out)
  clear H31
  have H38 := Lib.hid (Cs.new u4 (u4.heap.size) #[.int .i64 M2.v, .int .i64 M2.c, .int .i64 M2.s, .int .i64 M2.r, .int .i64 M2.t, .slice wba n2 wbc] 27 (by simp))
  have xb0 : (u4.alloc (.cells #[.int .i64 M2.v, .int .i64 M2.c, .int .i64 M2.s, .int .i64 M2.r, .int .i64 M2.t, .slice wba n2 wbc] 27)).cell? ⟨(u3.heap.size + 1), 0, none⟩ = some (.int .i64 M.v) := H36.out.c 0 rfl
  have xb1 : (u4.alloc (.cells #[.int .i64 M2.v, .int .i64 M2.c, .int .i64 M2.s, .int .i64 M2.r, .int .i64 M2.t, .slice wba n2 wbc] 27)).cell? ⟨(u3.heap.size + 1), 1, none⟩ = some (.int .i64 M.c) := H36.out.c 1 rfl
  have xb2 : (u4.alloc (.cells #[.int .i64 M2.v, .int .i64 M2.c, .int .i64 M2.s, .int .i64 M2.r, .int .i64 M2.t, .slice wba n2 wbc] 27)).cell? ⟨(u3.heap.size + 1), 2, none⟩ = some (.int .i64 M.s) := H36.out.c 2 rfl
  have xb3 : (u4.alloc (.cells #[.int .i64 M2.v, .int .i64 M2.c, .int .i64 M2.s, .int .i64 M2.r, .int .i64 M2.t, .slice wba n2 wbc] 27)).cell? ⟨(u3.heap.size + 1), 3, none⟩ = some (.int .i64 number) := H36.out.c 3 rfl
  have xb4 : (u4.alloc (.cells #[.int .i64 M2.v, .int .i64 M2.c, .int .i64 M2.s, .int .i64 M2.r, .int .i64 M2.t, .slice wba n2 wbc] 27)).cell? ⟨(u3.heap.size + 1), 4, none⟩ = some (.int .i64 M.t) := H36.out.c 4 rfl
  have zb : (u3.heap.size + 1) < (u4.alloc (.cells #[.int .i64 M2.v, .int .i64 M2.c, .int .i64 M2.s, .int .i64 M2.r, .int .i64 M2.t, .slice wba n2 wbc] 27)).heap.size := H36.out.2.2
  have xm0 : (u4.alloc (.cells #[.int .i64 M2.v, .int .i64 M2.c, .int .i64 M2.s, .int .i64 M2.r, .int .i64 M2.t, .slice wba n2 wbc] 27)).cell? ⟨(u2.heap.size), 0, none⟩ = some (.int .i64 M.v) := H34.out.c 0 rfl
  have xm1 : (u4.alloc (.cells #[.int .i64 M2.v, .int .i64 M2.c, .int .i64 M2.s, .int .i64 M2.r, .int .i64 M2.t, .slice wba n2 wbc] 27)).cell? ⟨(u2.heap.size), 1, none⟩ = some (.int .i64 M.c) := H34.out.c 1 rfl
  have xm2 : (u4.alloc (.cells #[.int .i64 M2.v, .int .i64 M2.c, .int .i64 M2.s, .int .i64 M2.r, .int .i64 M2.t, .slice wba n2 wbc] 27)).cell? ⟨(u2.heap.size), 2, none⟩ = some (.int .i64 M.s) := H34.out.c 2 rfl
  have xm3 : (u4.alloc (.cells #[.int .i64 M2.v, .int .i64 M2.c, .int .i64 M2.s, .int .i64 M2.r, .int .i64 M2.t, .slice wba n2 wbc] 27)).cell? ⟨(u2.heap.size), 3, none⟩ = some (.int .i64 M.r) := H34.out.c 3 rfl
  have xm4 : (u4.alloc (.cells #[.int .i64 M2.v, .int .i64 M2.c, .int .i64 M2.s, .int .i64 M2.r, .int .i64 M2.t, .slice wba n2 wbc] 27)).cell? ⟨(u2.heap.size), 4, none⟩ = some (.int .i64 M.t) := H34.out.c 4 rfl
  have zm : (u2.heap.size) < (u4.alloc (.cells #[.int .i64 M2.v, .int .i64 M2.c, .int .i64 M2.s, .int .i64 M2.r, .int .i64 M2.t, .slice wba n2 wbc] 27)).heap.size := H34.out.2.2
  have xt0 : (u4.alloc (.cells #[.int .i64 M2.v, .int .i64 M2.c, .int .i64 M2.s, .int .i64 M2.r, .int .i64 M2.t, .slice wba n2 wbc] 27)).cell? ⟨(u4.heap.size), 0, none⟩ = some (.int .i64 M2.v) := H38.out.c 0 rfl
  have xt1 : (u4.alloc (.cells #[.int .i64 M2.v, .int .i64 M2.c, .int .i64 M2.s, .int .i64 M2.r, .int .i64 M2.t, .slice wba n2 wbc] 27)).cell? ⟨(u4.heap.size), 1, none⟩ = some (.int .i64 M2.c) := H38.out.c 1 rfl
  have xt2 : (u4.alloc (.cells #[.int .i64 M2.v, .int .i64 M2.c, .int .i64 M2.s, .int .i64 M2.r, .int .i64 M2.t, .slice wba n2 wbc] 27)).cell? ⟨(u4.heap.size), 2, none⟩ = some (.int .i64 M2.s) := H38.out.c 2 rfl
  have xt3 : (u4.alloc (.cells #[.int .i64 M2.v, .int .i64 M2.c, .int .i64 M2.s, .int .i64 M2.r, .int .i64 M2.t, .slice wba n2 wbc] 27)).cell? ⟨(u4.heap.size), 3, none⟩ = some (.int .i64 M2.r) := H38.out.c 3 rfl
  have xt4 : (u4.alloc (.cells #[.int .i64 M2.v, .int .i64 M2.c, .int .i64 M2.s, .int .i64 M2.r, .int .i64 M2.t, .slice wba n2 wbc] 27)).cell? ⟨(u4.heap.size), 4, none⟩ = some (.int .i64 M2.t) := H38.out.c 4 rfl
  have xt5 : (u4.alloc (.cells #[.int .i64 M2.v, .int .i64 M2.c, .int .i64 M2.s, .int .i64 M2.r, .int .i64 M2.t, .slice wba n2 wbc] 27)).cell? ⟨(u4.heap.size), 5, none⟩ = some (.slice wba n2 wbc) := H38.out.c 5 rfl
  have zt : (u4.heap.size) < (u4.alloc (.cells #[.int .i64 M2.v, .int .i64 M2.c, .int .i64 M2.s, .int .i64 M2.r, .int .i64 M2.t, .slice wba n2 wbc] 27)).heap.size := H38.out.2.2
  have q24 := fun (W : World) => eq_ch3 M number W
  rw [hB2.out] at q24
  cases B1
  · cases B2
    · skip
      have f1 : ¬ other = key := by simpa using hB1.out
      have f2 : ¬ E1 = 0 := fun q => f1 (HE1.out.1 q)
      have f3 : (E1 == 0) = false := by simpa using f2
      have f4 : (other == key) = false := by simpa using f1
      have f5 : (E1 = 0) = False := by simpa using f2
      have f6 : (other = key) = False := by simpa using f1
      have g2 : ¬ E2 = 0 := fun q => (show ¬ number = M.r by simpa using hB2.out) (HE2.out.1 q)
      have g3 : (E2 == 0) = false := by simpa using g2
      have g5 : (E2 = 0) = False := by simpa using g2
      obtain rfl : n2 = 0 := by rw [hn2.out, HL2.out g2]; rfl
      go_wp2
      go_ret
      exact ⟨rfl, H37.out⟩
    · skip
      have f1 : ¬ other = key := by simpa using hB1.out
      have f2 : ¬ E1 = 0 := fun q => f1 (HE1.out.1 q)
      have f3 : (E1 == 0) = false := by simpa using f2
      have f4 : (other == key) = false := by simpa using f1
      have f5 : (E1 = 0) = False := by simpa using f2
      have f6 : (other = key) = False := by simpa using f1
      have g2 : E2 = 0 := HE2.out.2 (by simpa using hB2.out)
      have g3 : (E2 == 0) = true := by simpa using g2
      have g5 : (E2 = 0) = True := by simpa using g2
      clear g2
      go_wp2
      go_ret
      exact ⟨rfl, H37.out⟩
  · cases B2
    · skip
      have f1 : other = key := by simpa using hB1.out
      have f2 : E1 = 0 := HE1.out.2 f1
      have f3 : (E1 == 0) = true := by simpa using f2
      have f4 : (other == key) = true := by simpa using f1
      have f5 : (E1 = 0) = True := by simpa using f2
      have f6 : (other = key) = True := by simpa using f1
      clear f1 f2
      have g2 : ¬ E2 = 0 := fun q => (show ¬ number = M.r by simpa using hB2.out) (HE2.out.1 q)
      have g3 : (E2 == 0) = false := by simpa using g2
      have g5 : (E2 = 0) = False := by simpa using g2
      obtain rfl : n2 = 0 := by rw [hn2.out, HL2.out g2]; rfl
      go_wp2
      go_ret
      exact ⟨rfl, H37.out⟩
    · skip
      have f1 : other = key := by simpa using hB1.out
      have f2 : E1 = 0 := HE1.out.2 f1
      have f3 : (E1 == 0) = true := by simpa using f2
      have f4 : (other == key) = true := by simpa using f1
      have f5 : (E1 = 0) = True := by simpa using f2
      have f6 : (other = key) = True := by simpa using f1
      clear f1 f2
      have g2 : E2 = 0 := HE2.out.2 (by simpa using hB2.out)
      have g3 : (E2 == 0) = true := by simpa using g2
      have g5 : (E2 = 0) = True := by simpa using g2
      clear g2
      go_wp2
      go_ret
      exact ⟨rfl, H37.out⟩
set_option maxRecDepth 100000 in
set_option maxHeartbeats 8000000 in
theorem man_4 (key ver s : Int) (v : Value) (D : List Int) (other x number : Int) (w : World) (h : IntsAt w v D) (hcp : ∀ a n c, v = .slice a n c → n ≤ c) (hx0 : 0 ≤ x) (hx1 : x ≤ 255) (hL : D.length ≤ 200) (hE : spE key ver s D = 0) (hK : x.tmod 5 = 4) : Calls Try.prog 6 #[.int .i64 key, .int .i64 ver, .int .i64 s, v, .int .i64 other, .int .u8 x, .int .i64 number] w fun e w' => e = .returned (.bool true) ∧ Below w.heap.size w w' := by
  have H0 := Lib.hid (Below.refl w.heap.size w)
  have H1 := Lib.hid (h)
  replace hL := Lib.hid hL
  replace hE := Lib.hid hE
  replace hK := Lib.hid hK
  obtain ⟨va, vc, rfl, hm, -⟩ := h
  unfold maxLen at hm
  replace hm := Lib.hid hm
  replace hcp := Lib.hid (hcp _ _ _ rfl)
  go_enter Try.func6, Try.ntmps6
  go_wp2_with fail
  refine (head_any _).mono ?_
  rintro e u1 ⟨rfl, b1⟩
  have H2 := Lib.hid (H1.out.step b1)
  clear H1
  have H3 := Lib.hid (keep2 b1 H0.out)
  clear H0
  clear b1
  go_wp2_with fail
  obtain ⟨M, hM⟩ : ∃ z, spM key ver s D 0 = z := ⟨_, rfl⟩
  obtain ⟨l, hl⟩ : ∃ z, spL s D 0 = z := ⟨_, rfl⟩
  replace hM := Lib.hid hM
  replace hl := Lib.hid hl
  refine (split_any key ver s va vc D _ H2.out (by have := hm.out; omega) hcp.out hE.out hM.out hl.out).mono ?_
  rintro e u2 ⟨pv, rfl, hu, b2⟩
  have H4 := Lib.hid (H2.out.step b2)
  clear H2
  have H5 := Lib.hid (keep2 b2 H3.out)
  clear H3
  clear b2
  obtain ⟨ua, uc, rfl, -, -⟩ : ∃ (a : Option Addr) (c : Nat), pv = .slice a l.length c ∧ True ∧ True := by
    obtain ⟨a, c, e, -⟩ := hu
    exact ⟨a, c, e, trivial, trivial⟩
  have H6 := Lib.hid (hu)
  clear hu
  have H7 := Lib.hid (H4.out.step (al u2 (.cells #[.int .i64 M.v, .int .i64 M.c, .int .i64 M.s, .int .i64 M.r, .int .i64 M.t] 24)))
  clear H4
  have H8 := Lib.hid (H6.out.step (al u2 (.cells #[.int .i64 M.v, .int .i64 M.c, .int .i64 M.s, .int .i64 M.r, .int .i64 M.t] 24)))
  clear H6
  have H9 := Lib.hid (keep2 (al u2 (.cells #[.int .i64 M.v, .int .i64 M.c, .int .i64 M.s, .int .i64 M.r, .int .i64 M.t] 24)) H5.out)
  clear H5
  have H10 := Lib.hid (Cs.new u2 (u2.heap.size) #[.int .i64 M.v, .int .i64 M.c, .int .i64 M.s, .int .i64 M.r, .int .i64 M.t] 24 (by simp))
  have xm0 : (u2.alloc (.cells #[.int .i64 M.v, .int .i64 M.c, .int .i64 M.s, .int .i64 M.r, .int .i64 M.t] 24)).cell? ⟨(u2.heap.size), 0, none⟩ = some (.int .i64 M.v) := H10.out.c 0 rfl
  have xm1 : (u2.alloc (.cells #[.int .i64 M.v, .int .i64 M.c, .int .i64 M.s, .int .i64 M.r, .int .i64 M.t] 24)).cell? ⟨(u2.heap.size), 1, none⟩ = some (.int .i64 M.c) := H10.out.c 1 rfl
  have xm2 : (u2.alloc (.cells #[.int .i64 M.v, .int .i64 M.c, .int .i64 M.s, .int .i64 M.r, .int .i64 M.t] 24)).cell? ⟨(u2.heap.size), 2, none⟩ = some (.int .i64 M.s) := H10.out.c 2 rfl
  have xm3 : (u2.alloc (.cells #[.int .i64 M.v, .int .i64 M.c, .int .i64 M.s, .int .i64 M.r, .int .i64 M.t] 24)).cell? ⟨(u2.heap.size), 3, none⟩ = some (.int .i64 M.r) := H10.out.c 3 rfl
  have xm4 : (u2.alloc (.cells #[.int .i64 M.v, .int .i64 M.c, .int .i64 M.s, .int .i64 M.r, .int .i64 M.t] 24)).cell? ⟨(u2.heap.size), 4, none⟩ = some (.int .i64 M.t) := H10.out.c 4 rfl
  have zm : (u2.heap.size) < (u2.alloc (.cells #[.int .i64 M.v, .int .i64 M.c, .int .i64 M.s, .int .i64 M.r, .int .i64 M.t] 24)).heap.size := H10.out.2.2
  have g1 : decide ((D.length : Int) > 200) = false := by simp; have := hL.out; omega
  have g1b : decide ((200 : Int) < (D.length : Int)) = false := by simp; have := hL.out; omega
  go_wp2_with fail
  obtain ⟨B1, hB1⟩ : ∃ b, decide (other = key) = b := ⟨_, rfl⟩
  obtain ⟨E1, hE1⟩ : ∃ z, bgE other 0 M = z := ⟨_, rfl⟩
  obtain ⟨M1, hM1⟩ : ∃ z, bgM E1 M = z := ⟨_, rfl⟩
  obtain ⟨L1, hL1⟩ : ∃ z, bgL E1 M = z := ⟨_, rfl⟩
  have HE1 := Lib.hid (show E1 = 0 ↔ other = key by rw [← hE1, ← hM.out]; exact bg_other hE.out)
  replace hB1 := Lib.hid hB1
  refine (begin_any other 0 M hE1 hM1 hL1 _).mono ?_
  rintro e u3 ⟨sv, rfl, hu2, b3⟩
  clear xm0 xm1 xm2 xm3 xm4 zm
  have H11 := Lib.hid (H7.out.step b3)
  clear H7
  have H12 := Lib.hid (H8.out.step b3)
  clear H8
  have H13 := Lib.hid (H10.out.step b3)
  clear H10
  have H14 := Lib.hid (keep2 b3 H9.out)
  clear H9
  clear b3
  clear hE1 hM1 hL1
  have HS9 := Lib.hid (H14.out.size)
  have HS8 := Lib.hid (H13.out.2.2)
  obtain ⟨n1, uba, ubc, rfl, -⟩ : ∃ (n : Nat) (a : Option Addr) (c : Nat), sv = .slice a n c ∧ True := by
    obtain ⟨a, c, e, -⟩ := hu2
    exact ⟨_, a, c, e, trivial⟩
  clear hu2
  have H15 := Lib.hid (H11.out.step (al u3 (.cells #[.int .i64 M1.v, .int .i64 M1.c, .int .i64 M1.s, .int .i64 M1.r, .int .i64 M1.t, .slice uba n1 ubc] 27)))
  clear H11
  have H16 := Lib.hid (H12.out.step (al u3 (.cells #[.int .i64 M1.v, .int .i64 M1.c, .int .i64 M1.s, .int .i64 M1.r, .int .i64 M1.t, .slice uba n1 ubc] 27)))
  clear H12
  have H17 := Lib.hid (H13.out.step (al u3 (.cells #[.int .i64 M1.v, .int .i64 M1.c, .int .i64 M1.s, .int .i64 M1.r, .int .i64 M1.t, .slice uba n1 ubc] 27)))
  clear H13
  have H18 := Lib.hid (keep2 (al u3 (.cells #[.int .i64 M1.v, .int .i64 M1.c, .int .i64 M1.s, .int .i64 M1.r, .int .i64 M1.t, .slice uba n1 ubc] 27)) H14.out)
  clear H14
  have H19 := Lib.hid (Cs.new u3 (u3.heap.size) #[.int .i64 M1.v, .int .i64 M1.c, .int .i64 M1.s, .int .i64 M1.r, .int .i64 M1.t, .slice uba n1 ubc] 27 (by simp))
  have xpm0 : (u3.alloc (.cells #[.int .i64 M1.v, .int .i64 M1.c, .int .i64 M1.s, .int .i64 M1.r, .int .i64 M1.t, .slice uba n1 ubc] 27)).cell? ⟨(u2.heap.size), 0, none⟩ = some (.int .i64 M.v) := H17.out.c 0 rfl
  have xpm1 : (u3.alloc (.cells #[.int .i64 M1.v, .int .i64 M1.c, .int .i64 M1.s, .int .i64 M1.r, .int .i64 M1.t, .slice uba n1 ubc] 27)).cell? ⟨(u2.heap.size), 1, none⟩ = some (.int .i64 M.c) := H17.out.c 1 rfl
  have xpm2 : (u3.alloc (.cells #[.int .i64 M1.v, .int .i64 M1.c, .int .i64 M1.s, .int .i64 M1.r, .int .i64 M1.t, .slice uba n1 ubc] 27)).cell? ⟨(u2.heap.size), 2, none⟩ = some (.int .i64 M.s) := H17.out.c 2 rfl
  have xpm3 : (u3.alloc (.cells #[.int .i64 M1.v, .int .i64 M1.c, .int .i64 M1.s, .int .i64 M1.r, .int .i64 M1.t, .slice uba n1 ubc] 27)).cell? ⟨(u2.heap.size), 3, none⟩ = some (.int .i64 M.r) := H17.out.c 3 rfl
  have xpm4 : (u3.alloc (.cells #[.int .i64 M1.v, .int .i64 M1.c, .int .i64 M1.s, .int .i64 M1.r, .int .i64 M1.t, .slice uba n1 ubc] 27)).cell? ⟨(u2.heap.size), 4, none⟩ = some (.int .i64 M.t) := H17.out.c 4 rfl
  have zpm : (u2.heap.size) < (u3.alloc (.cells #[.int .i64 M1.v, .int .i64 M1.c, .int .i64 M1.s, .int .i64 M1.r, .int .i64 M1.t, .slice uba n1 ubc] 27)).heap.size := H17.out.2.2
  have q1 := H17.out.step (al (u3.alloc (.cells #[.int .i64 M1.v, .int .i64 M1.c, .int .i64 M1.s, .int .i64 M1.r, .int .i64 M1.t, .slice uba n1 ubc] 27)) (.cells #[.int .i64 M.v, .int .i64 M.c, .int .i64 M.s, .int .i64 M.r, .int .i64 M.t] 24))
  have q2 := Cs.new (u3.alloc (.cells #[.int .i64 M1.v, .int .i64 M1.c, .int .i64 M1.s, .int .i64 M1.r, .int .i64 M1.t, .slice uba n1 ubc] 27)) (u3.heap.size + 1) #[.int .i64 M.v, .int .i64 M.c, .int .i64 M.s, .int .i64 M.r, .int .i64 M.t] 24 (by simp)
  have x0 : ((u3.alloc (.cells #[.int .i64 M1.v, .int .i64 M1.c, .int .i64 M1.s, .int .i64 M1.r, .int .i64 M1.t, .slice uba n1 ubc] 27)).alloc (.cells #[.int .i64 M.v, .int .i64 M.c, .int .i64 M.s, .int .i64 M.r, .int .i64 M.t] 24)).cell? ⟨(u2.heap.size), 0, none⟩ = some (.int .i64 M.v) := q1.c 0 rfl
  have z0 : ((u3.alloc (.cells #[.int .i64 M1.v, .int .i64 M1.c, .int .i64 M1.s, .int .i64 M1.r, .int .i64 M1.t, .slice uba n1 ubc] 27)).alloc (.cells #[.int .i64 M.v, .int .i64 M.c, .int .i64 M.s, .int .i64 M.r, .int .i64 M.t] 24)).cell? ⟨(u3.heap.size + 1), 0, none⟩ = some (.int .i64 M.v) := q2.c 0 rfl
  have y0 : ((u3.alloc (.cells #[.int .i64 M1.v, .int .i64 M1.c, .int .i64 M1.s, .int .i64 M1.r, .int .i64 M1.t, .slice uba n1 ubc] 27)).alloc (.cells #[.int .i64 M.v, .int .i64 M.c, .int .i64 M.s, .int .i64 M.r, .int .i64 M.t] 24)).frozen? ⟨(u3.heap.size + 1), 0, none⟩ = false := q2.f 0 (by simp)
  have x1 : ((u3.alloc (.cells #[.int .i64 M1.v, .int .i64 M1.c, .int .i64 M1.s, .int .i64 M1.r, .int .i64 M1.t, .slice uba n1 ubc] 27)).alloc (.cells #[.int .i64 M.v, .int .i64 M.c, .int .i64 M.s, .int .i64 M.r, .int .i64 M.t] 24)).cell? ⟨(u2.heap.size), 1, none⟩ = some (.int .i64 M.c) := q1.c 1 rfl
  have z1 : ((u3.alloc (.cells #[.int .i64 M1.v, .int .i64 M1.c, .int .i64 M1.s, .int .i64 M1.r, .int .i64 M1.t, .slice uba n1 ubc] 27)).alloc (.cells #[.int .i64 M.v, .int .i64 M.c, .int .i64 M.s, .int .i64 M.r, .int .i64 M.t] 24)).cell? ⟨(u3.heap.size + 1), 1, none⟩ = some (.int .i64 M.c) := q2.c 1 rfl
  have y1 : ((u3.alloc (.cells #[.int .i64 M1.v, .int .i64 M1.c, .int .i64 M1.s, .int .i64 M1.r, .int .i64 M1.t, .slice uba n1 ubc] 27)).alloc (.cells #[.int .i64 M.v, .int .i64 M.c, .int .i64 M.s, .int .i64 M.r, .int .i64 M.t] 24)).frozen? ⟨(u3.heap.size + 1), 1, none⟩ = false := q2.f 1 (by simp)
  have x2 : ((u3.alloc (.cells #[.int .i64 M1.v, .int .i64 M1.c, .int .i64 M1.s, .int .i64 M1.r, .int .i64 M1.t, .slice uba n1 ubc] 27)).alloc (.cells #[.int .i64 M.v, .int .i64 M.c, .int .i64 M.s, .int .i64 M.r, .int .i64 M.t] 24)).cell? ⟨(u2.heap.size), 2, none⟩ = some (.int .i64 M.s) := q1.c 2 rfl
  have z2 : ((u3.alloc (.cells #[.int .i64 M1.v, .int .i64 M1.c, .int .i64 M1.s, .int .i64 M1.r, .int .i64 M1.t, .slice uba n1 ubc] 27)).alloc (.cells #[.int .i64 M.v, .int .i64 M.c, .int .i64 M.s, .int .i64 M.r, .int .i64 M.t] 24)).cell? ⟨(u3.heap.size + 1), 2, none⟩ = some (.int .i64 M.s) := q2.c 2 rfl
  have y2 : ((u3.alloc (.cells #[.int .i64 M1.v, .int .i64 M1.c, .int .i64 M1.s, .int .i64 M1.r, .int .i64 M1.t, .slice uba n1 ubc] 27)).alloc (.cells #[.int .i64 M.v, .int .i64 M.c, .int .i64 M.s, .int .i64 M.r, .int .i64 M.t] 24)).frozen? ⟨(u3.heap.size + 1), 2, none⟩ = false := q2.f 2 (by simp)
  have x3 : ((u3.alloc (.cells #[.int .i64 M1.v, .int .i64 M1.c, .int .i64 M1.s, .int .i64 M1.r, .int .i64 M1.t, .slice uba n1 ubc] 27)).alloc (.cells #[.int .i64 M.v, .int .i64 M.c, .int .i64 M.s, .int .i64 M.r, .int .i64 M.t] 24)).cell? ⟨(u2.heap.size), 3, none⟩ = some (.int .i64 M.r) := q1.c 3 rfl
  have z3 : ((u3.alloc (.cells #[.int .i64 M1.v, .int .i64 M1.c, .int .i64 M1.s, .int .i64 M1.r, .int .i64 M1.t, .slice uba n1 ubc] 27)).alloc (.cells #[.int .i64 M.v, .int .i64 M.c, .int .i64 M.s, .int .i64 M.r, .int .i64 M.t] 24)).cell? ⟨(u3.heap.size + 1), 3, none⟩ = some (.int .i64 M.r) := q2.c 3 rfl
  have y3 : ((u3.alloc (.cells #[.int .i64 M1.v, .int .i64 M1.c, .int .i64 M1.s, .int .i64 M1.r, .int .i64 M1.t, .slice uba n1 ubc] 27)).alloc (.cells #[.int .i64 M.v, .int .i64 M.c, .int .i64 M.s, .int .i64 M.r, .int .i64 M.t] 24)).frozen? ⟨(u3.heap.size + 1), 3, none⟩ = false := q2.f 3 (by simp)
  have x4 : ((u3.alloc (.cells #[.int .i64 M1.v, .int .i64 M1.c, .int .i64 M1.s, .int .i64 M1.r, .int .i64 M1.t, .slice uba n1 ubc] 27)).alloc (.cells #[.int .i64 M.v, .int .i64 M.c, .int .i64 M.s, .int .i64 M.r, .int .i64 M.t] 24)).cell? ⟨(u2.heap.size), 4, none⟩ = some (.int .i64 M.t) := q1.c 4 rfl
  have z4 : ((u3.alloc (.cells #[.int .i64 M1.v, .int .i64 M1.c, .int .i64 M1.s, .int .i64 M1.r, .int .i64 M1.t, .slice uba n1 ubc] 27)).alloc (.cells #[.int .i64 M.v, .int .i64 M.c, .int .i64 M.s, .int .i64 M.r, .int .i64 M.t] 24)).cell? ⟨(u3.heap.size + 1), 4, none⟩ = some (.int .i64 M.t) := q2.c 4 rfl
  have y4 : ((u3.alloc (.cells #[.int .i64 M1.v, .int .i64 M1.c, .int .i64 M1.s, .int .i64 M1.r, .int .i64 M1.t, .slice uba n1 ubc] 27)).alloc (.cells #[.int .i64 M.v, .int .i64 M.c, .int .i64 M.s, .int .i64 M.r, .int .i64 M.t] 24)).frozen? ⟨(u3.heap.size + 1), 4, none⟩ = false := q2.f 4 (by simp)
  have xz := q1.2.2
  have yz := q2.2.2
  clear q1 q2
  have t1 : IntKind.i64.wrap x = x := IntWalk.i64_in _ (by omega)
  have t2 : wrap64 x = x := IntWalk.wrap64_in _ (by omega)
  have t3 : x.tmod 5 = 4 := hK.out
  have t4 : wrap64 (x.tmod 5) = 4 := by rw [hK.out]; exact IntWalk.wrap64_in _ (by omega)
  have t5 : IntKind.i64.wrap (x.tmod 5) = 4 := by rw [hK.out]; exact IntWalk.i64_in _ (by omega)
  go_wp2_with fail
  clear xpm0 xpm1 xpm2 xpm3 xpm4 zpm x0 y0 z0 x1 y1 z1 x2 y2 z2 x3 y3 z3 x4 y4 z4 xz yz
  have H20 := Lib.hid (H15.out.step (al (u3.alloc (.cells #[.int .i64 M1.v, .int .i64 M1.c, .int .i64 M1.s, .int .i64 M1.r, .int .i64 M1.t, .slice uba n1 ubc] 27)) (.cells #[.int .i64 M.v, .int .i64 M.c, .int .i64 M.s, .int .i64 M.r, .int .i64 number] 24)))
  clear H15
  have H21 := Lib.hid (H16.out.step (al (u3.alloc (.cells #[.int .i64 M1.v, .int .i64 M1.c, .int .i64 M1.s, .int .i64 M1.r, .int .i64 M1.t, .slice uba n1 ubc] 27)) (.cells #[.int .i64 M.v, .int .i64 M.c, .int .i64 M.s, .int .i64 M.r, .int .i64 number] 24)))
  clear H16
  have H22 := Lib.hid (H17.out.step (al (u3.alloc (.cells #[.int .i64 M1.v, .int .i64 M1.c, .int .i64 M1.s, .int .i64 M1.r, .int .i64 M1.t, .slice uba n1 ubc] 27)) (.cells #[.int .i64 M.v, .int .i64 M.c, .int .i64 M.s, .int .i64 M.r, .int .i64 number] 24)))
  clear H17
  have H23 := Lib.hid (H19.out.step (al (u3.alloc (.cells #[.int .i64 M1.v, .int .i64 M1.c, .int .i64 M1.s, .int .i64 M1.r, .int .i64 M1.t, .slice uba n1 ubc] 27)) (.cells #[.int .i64 M.v, .int .i64 M.c, .int .i64 M.s, .int .i64 M.r, .int .i64 number] 24)))
  clear H19
  have H24 := Lib.hid (keep2 (al (u3.alloc (.cells #[.int .i64 M1.v, .int .i64 M1.c, .int .i64 M1.s, .int .i64 M1.r, .int .i64 M1.t, .slice uba n1 ubc] 27)) (.cells #[.int .i64 M.v, .int .i64 M.c, .int .i64 M.s, .int .i64 M.r, .int .i64 number] 24)) H18.out)
  clear H18
  have H25 := Lib.hid (Cs.new (u3.alloc (.cells #[.int .i64 M1.v, .int .i64 M1.c, .int .i64 M1.s, .int .i64 M1.r, .int .i64 M1.t, .slice uba n1 ubc] 27)) (u3.heap.size + 1) #[.int .i64 M.v, .int .i64 M.c, .int .i64 M.s, .int .i64 M.r, .int .i64 number] 24 (by simp))
  clear t1 t2 t3 t4 t5
  obtain ⟨MX, hMX⟩ : ∃ z, chM 4 number M = z := ⟨_, rfl⟩
  obtain ⟨E2, hE2⟩ : ∃ z, bgE key 0 (chM 4 number M) = z := ⟨_, rfl⟩
  obtain ⟨M2, hM2⟩ : ∃ z, bgM E2 (chM 4 number M) = z := ⟨_, rfl⟩
  obtain ⟨L2, hL2⟩ : ∃ z, bgL E2 (chM 4 number M) = z := ⟨_, rfl⟩
  clear hMX MX
  obtain ⟨B2, hB2⟩ : ∃ b, decide (number = M.t) = b := ⟨_, rfl⟩
  have HE2 := Lib.hid (show E2 = 0 ↔ number = M.t by rw [← hE2, ← hM.out]; exact bg_changed hE.out 4)
  replace hB2 := Lib.hid hB2
  have HL2 := Lib.hid (show E2 ≠ 0 → L2 = [] from fun q => by rw [← hL2]; exact if_neg q)
  refine (begin_any key 0 (chM 4 number M) hE2 hM2 hL2 _).mono ?_
  rintro e u4 ⟨sw, rfl, hu3, b4⟩
  have H26 := Lib.hid (H20.out.step b4)
  clear H20
  have H27 := Lib.hid (H21.out.step b4)
  clear H21
  have H28 := Lib.hid (H22.out.step b4)
  clear H22
  have H29 := Lib.hid (H23.out.step b4)
  clear H23
  have H30 := Lib.hid (H25.out.step b4)
  clear H25
  have H31 := Lib.hid (keep2 b4 H24.out)
  clear H24
  clear b4
  clear hE2 hM2 hL2
  obtain ⟨n2, wba, wbc, rfl, hn2⟩ : ∃ (n : Nat) (a : Option Addr) (c : Nat), sw = .slice a n c ∧ n = L2.length := by
    obtain ⟨a, c, e, -⟩ := hu3
    exact ⟨_, a, c, e, rfl⟩
  clear hu3
  replace hn2 := Lib.hid hn2
  have H32 := Lib.hid (H26.out.step (al u4 (.cells #[.int .i64 M2.v, .int .i64 M2.c, .int .i64 M2.s, .int .i64 M2.r, .int .i64 M2.t, .slice wba n2 wbc] 27)))
  clear H26
  have H33 := Lib.hid (H27.out.step (al u4 (.cells #[.int .i64 M2.v, .int .i64 M2.c, .int .i64 M2.s, .int .i64 M2.r, .int .i64 M2.t, .slice wba n2 wbc] 27)))
  clear H27
  have H34 := Lib.hid (H28.out.step (al u4 (.cells #[.int .i64 M2.v, .int .i64 M2.c, .int .i64 M2.s, .int .i64 M2.r, .int .i64 M2.t, .slice wba n2 wbc] 27)))
  clear H28
  have H35 := Lib.hid (H29.out.step (al u4 (.cells #[.int .i64 M2.v, .int .i64 M2.c, .int .i64 M2.s, .int .i64 M2.r, .int .i64 M2.t, .slice wba n2 wbc] 27)))
  clear H29
  have H36 := Lib.hid (H30.out.step (al u4 (.cells #[.int .i64 M2.v, .int .i64 M2.c, .int .i64 M2.s, .int .i64 M2.r, .int .i64 M2.t, .slice wba n2 wbc] 27)))
  clear H30
  have H37 := Lib.hid (keep2 (al u4 (.cells #[.int .i64 M2.v, .int .i64 M2.c, .int .i64 M2.s, .int .i64 M2.r, .int .i64 M2.t, .slice wba n2 wbc] 27)) H31.out)
  clear H31
  have H38 := Lib.hid (Cs.new u4 (u4.heap.size) #[.int .i64 M2.v, .int .i64 M2.c, .int .i64 M2.s, .int .i64 M2.r, .int .i64 M2.t, .slice wba n2 wbc] 27 (by simp))
  have xb0 : (u4.alloc (.cells #[.int .i64 M2.v, .int .i64 M2.c, .int .i64 M2.s, .int .i64 M2.r, .int .i64 M2.t, .slice wba n2 wbc] 27)).cell? ⟨(u3.heap.size + 1), 0, none⟩ = some (.int .i64 M.v) := H36.out.c 0 rfl
  have xb1 : (u4.alloc (.cells #[.int .i64 M2.v, .int .i64 M2.c, .int .i64 M2.s, .int .i64 M2.r, .int .i64 M2.t, .slice wba n2 wbc] 27)).cell? ⟨(u3.heap.size + 1), 1, none⟩ = some (.int .i64 M.c) := H36.out.c 1 rfl
  have xb2 : (u4.alloc (.cells #[.int .i64 M2.v, .int .i64 M2.c, .int .i64 M2.s, .int .i64 M2.r, .int .i64 M2.t, .slice wba n2 wbc] 27)).cell? ⟨(u3.heap.size + 1), 2, none⟩ = some (.int .i64 M.s) := H36.out.c 2 rfl
  have xb3 : (u4.alloc (.cells #[.int .i64 M2.v, .int .i64 M2.c, .int .i64 M2.s, .int .i64 M2.r, .int .i64 M2.t, .slice wba n2 wbc] 27)).cell? ⟨(u3.heap.size + 1), 3, none⟩ = some (.int .i64 M.r) := H36.out.c 3 rfl
  have xb4 : (u4.alloc (.cells #[.int .i64 M2.v, .int .i64 M2.c, .int .i64 M2.s, .int .i64 M2.r, .int .i64 M2.t, .slice wba n2 wbc] 27)).cell? ⟨(u3.heap.size + 1), 4, none⟩ = some (.int .i64 number) := H36.out.c 4 rfl
  have zb : (u3.heap.size + 1) < (u4.alloc (.cells #[.int .i64 M2.v, .int .i64 M2.c, .int .i64 M2.s, .int .i64 M2.r, .int .i64 M2.t, .slice wba n2 wbc] 27)).heap.size := H36.out.2.2
  have xm0 : (u4.alloc (.cells #[.int .i64 M2.v, .int .i64 M2.c, .int .i64 M2.s, .int .i64 M2.r, .int .i64 M2.t, .slice wba n2 wbc] 27)).cell? ⟨(u2.heap.size), 0, none⟩ = some (.int .i64 M.v) := H34.out.c 0 rfl
  have xm1 : (u4.alloc (.cells #[.int .i64 M2.v, .int .i64 M2.c, .int .i64 M2.s, .int .i64 M2.r, .int .i64 M2.t, .slice wba n2 wbc] 27)).cell? ⟨(u2.heap.size), 1, none⟩ = some (.int .i64 M.c) := H34.out.c 1 rfl
  have xm2 : (u4.alloc (.cells #[.int .i64 M2.v, .int .i64 M2.c, .int .i64 M2.s, .int .i64 M2.r, .int .i64 M2.t, .slice wba n2 wbc] 27)).cell? ⟨(u2.heap.size), 2, none⟩ = some (.int .i64 M.s) := H34.out.c 2 rfl
  have xm3 : (u4.alloc (.cells #[.int .i64 M2.v, .int .i64 M2.c, .int .i64 M2.s, .int .i64 M2.r, .int .i64 M2.t, .slice wba n2 wbc] 27)).cell? ⟨(u2.heap.size), 3, none⟩ = some (.int .i64 M.r) := H34.out.c 3 rfl
  have xm4 : (u4.alloc (.cells #[.int .i64 M2.v, .int .i64 M2.c, .int .i64 M2.s, .int .i64 M2.r, .int .i64 M2.t, .slice wba n2 wbc] 27)).cell? ⟨(u2.heap.size), 4, none⟩ = some (.int .i64 M.t) := H34.out.c 4 rfl
  have zm : (u2.heap.size) < (u4.alloc (.cells #[.int .i64 M2.v, .int .i64 M2.c, .int .i64 M2.s, .int .i64 M2.r, .int .i64 M2.t, .slice wba n2 wbc] 27)).heap.size := H34.out.2.2
  have xt0 : (u4.alloc (.cells #[.int .i64 M2.v, .int .i64 M2.c, .int .i64 M2.s, .int .i64 M2.r, .int .i64 M2.t, .slice wba n2 wbc] 27)).cell? ⟨(u4.heap.size), 0, none⟩ = some (.int .i64 M2.v) := H38.out.c 0 rfl
  have xt1 : (u4.alloc (.cells #[.int .i64 M2.v, .int .i64 M2.c, .int .i64 M2.s, .int .i64 M2.r, .int .i64 M2.t, .slice wba n2 wbc] 27)).cell? ⟨(u4.heap.size), 1, none⟩ = some (.int .i64 M2.c) := H38.out.c 1 rfl
  have xt2 : (u4.alloc (.cells #[.int .i64 M2.v, .int .i64 M2.c, .int .i64 M2.s, .int .i64 M2.r, .int .i64 M2.t, .slice wba n2 wbc] 27)).cell? ⟨(u4.heap.size), 2, none⟩ = some (.int .i64 M2.s) := H38.out.c 2 rfl
  have xt3 : (u4.alloc (.cells #[.int .i64 M2.v, .int .i64 M2.c, .int .i64 M2.s, .int .i64 M2.r, .int .i64 M2.t, .slice wba n2 wbc] 27)).cell? ⟨(u4.heap.size), 3, none⟩ = some (.int .i64 M2.r) := H38.out.c 3 rfl
  have xt4 : (u4.alloc (.cells #[.int .i64 M2.v, .int .i64 M2.c, .int .i64 M2.s, .int .i64 M2.r, .int .i64 M2.t, .slice wba n2 wbc] 27)).cell? ⟨(u4.heap.size), 4, none⟩ = some (.int .i64 M2.t) := H38.out.c 4 rfl
  have xt5 : (u4.alloc (.cells #[.int .i64 M2.v, .int .i64 M2.c, .int .i64 M2.s, .int .i64 M2.r, .int .i64 M2.t, .slice wba n2 wbc] 27)).cell? ⟨(u4.heap.size), 5, none⟩ = some (.slice wba n2 wbc) := H38.out.c 5 rfl
  have zt : (u4.heap.size) < (u4.alloc (.cells #[.int .i64 M2.v, .int .i64 M2.c, .int .i64 M2.s, .int .i64 M2.r, .int .i64 M2.t, .slice wba n2 wbc] 27)).heap.size := H38.out.2.2
  have q24 := fun (W : World) => eq_ch4 M number W
  rw [hB2.out] at q24
  cases B1
  · cases B2
    · skip
      have f1 : ¬ other = key := by simpa using hB1.out
      have f2 : ¬ E1 = 0 := fun q => f1 (HE1.out.1 q)
      have f3 : (E1 == 0) = false := by simpa using f2
      have f4 : (other == key) = false := by simpa using f1
      have f5 : (E1 = 0) = False := by simpa using f2
      have f6 : (other = key) = False := by simpa using f1
      have g2 : ¬ E2 = 0 := fun q => (show ¬ number = M.t by simpa using hB2.out) (HE2.out.1 q)
      have g3 : (E2 == 0) = false := by simpa using g2
      have g5 : (E2 = 0) = False := by simpa using g2
      obtain rfl : n2 = 0 := by rw [hn2.out, HL2.out g2]; rfl
      go_wp2
      go_ret
      exact ⟨rfl, H37.out⟩
    · skip
      have f1 : ¬ other = key := by simpa using hB1.out
      have f2 : ¬ E1 = 0 := fun q => f1 (HE1.out.1 q)
      have f3 : (E1 == 0) = false := by simpa using f2
      have f4 : (other == key) = false := by simpa using f1
      have f5 : (E1 = 0) = False := by simpa using f2
      have f6 : (other = key) = False := by simpa using f1
      have g2 : E2 = 0 := HE2.out.2 (by simpa using hB2.out)
      have g3 : (E2 == 0) = true := by simpa using g2
      have g5 : (E2 = 0) = True := by simpa using g2
      clear g2
      go_wp2
      go_ret
      exact ⟨rfl, H37.out⟩
  · cases B2
    · skip
      have f1 : other = key := by simpa using hB1.out
      have f2 : E1 = 0 := HE1.out.2 f1
      have f3 : (E1 == 0) = true := by simpa using f2
      have f4 : (other == key) = true := by simpa using f1
      have f5 : (E1 = 0) = True := by simpa using f2
      have f6 : (other = key) = True := by simpa using f1
      clear f1 f2
      have g2 : ¬ E2 = 0 := fun q => (show ¬ number = M.t by simpa using hB2.out) (HE2.out.1 q)
      have g3 : (E2 == 0) = false := by simpa using g2
      have g5 : (E2 = 0) = False := by simpa using g2
      obtain rfl : n2 = 0 := by rw [hn2.out, HL2.out g2]; rfl
      go_wp2
      go_ret
      exact ⟨rfl, H37.out⟩
    · skip
      have f1 : other = key := by simpa using hB1.out
      have f2 : E1 = 0 := HE1.out.2 f1
      have f3 : (E1 == 0) = true := by simpa using f2
      have f4 : (other == key) = true := by simpa using f1
      have f5 : (E1 = 0) = True := by simpa using f2
      have f6 : (other = key) = True := by simpa using f1
      clear f1 f2
      have g2 : E2 = 0 := HE2.out.2 (by simpa using hB2.out)
      have g3 : (E2 == 0) = true := by simpa using g2
      have g5 : (E2 = 0) = True := by simpa using g2
      clear g2
      go_wp2
      go_ret
      exact ⟨rfl, H37.out⟩
theorem manif_law (key ver s : Int) (v : Value) (D : List Int) (other x number : Int) (w : World) (h : IntsAt w v D) (hcp : ∀ a n c, v = .slice a n c → n ≤ c) (hx0 : 0 ≤ x) (hx1 : x ≤ 255) : Calls Try.prog 6 #[.int .i64 key, .int .i64 ver, .int .i64 s, v, .int .i64 other, .int .u8 x, .int .i64 number] w fun e w' => e = .returned (.bool true) ∧ Below w.heap.size w w' := by
  by_cases hL : 200 < D.length
  · exact man_long key ver s v D other x number w h hcp hx0 hx1 hL
  · by_cases hE : spE key ver s D = 0
    · have q1 : 0 ≤ x.tmod 5 := Int.tmod_nonneg _ hx0
      have q2 : x.tmod 5 < 5 := Int.tmod_lt_of_pos _ (by omega)
      by_cases k0 : x.tmod 5 = 0
      · exact man_0 key ver s v D other x number w h hcp hx0 hx1 (by omega) hE k0
      · by_cases k1 : x.tmod 5 = 1
        · exact man_1 key ver s v D other x number w h hcp hx0 hx1 (by omega) hE k1
        · by_cases k2 : x.tmod 5 = 2
          · exact man_2 key ver s v D other x number w h hcp hx0 hx1 (by omega) hE k2
          · by_cases k3 : x.tmod 5 = 3
            · exact man_3 key ver s v D other x number w h hcp hx0 hx1 (by omega) hE k3
            · exact man_4 key ver s v D other x number w h hcp hx0 hx1 (by omega) hE (by omega)
    · exact man_bad key ver s v D other x number w h hcp hx0 hx1 (by omega) hE
end Go.Proofs.Yteodafhgfcbdpaa
