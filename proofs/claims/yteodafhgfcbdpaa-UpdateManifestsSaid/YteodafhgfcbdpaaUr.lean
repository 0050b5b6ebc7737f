import Derived.Test.YteodafhgfcbdpaaUo
import Derived.Test.YteodafhgfcbdpaaUq
namespace Go.Proofs.Yteodafhgfcbdpaa
open Go.RowKit

theorem eq_self (m : Mf) (W : World) : (binOp .eql 24 (.agg #[.int .i64 m.v, .int .i64 m.c, .int .i64 m.s, .int .i64 m.r, .int .i64 m.t]) (.agg #[.int .i64 m.v, .int .i64 m.c, .int .i64 m.s, .int .i64 m.r, .int .i64 m.t])).run Try.prog W = .ok (.bool true) W := by
  simp [go_sem]
theorem spL_len (s : Int) (D : List Int) : (spL s D 0).length = chN D.length s.toNat := by unfold spL; rw [if_pos rfl, spP_len]
set_option maxRecDepth 100000 in
set_option maxHeartbeats 8000000 in
theorem ver_long (key ver s : Int) (v : Value) (D : List Int) (used : Int) (w : World) (h : IntsAt w v D) (hcp : ∀ a n c, v = .slice a n c → n ≤ c) (hL : 200 < D.length) : Calls Try.prog 7 #[.int .i64 key, .int .i64 ver, .int .i64 s, v, .int .i64 used] w fun e w' => e = .returned (.bool true) ∧ Below w.heap.size w w' := by
  have H0 := Lib.hid (Below.refl w.heap.size w)
  have H1 := Lib.hid (h)
  replace hL := Lib.hid hL
  obtain ⟨va, vc, rfl, hm, -⟩ := h
  unfold maxLen at hm
  replace hm := Lib.hid hm
  replace hcp := Lib.hid (hcp _ _ _ rfl)
  go_enter Try.func7, Try.ntmps7
  go_wp2_with fail
  refine (head_any _).mono ?_
  rintro e u1 ⟨rfl, b1⟩
  have H2 := Lib.hid (H1.out.step b1)
  clear H1
  have H3 := Lib.hid (keep2 b1 H0.out)
  clear H0
  clear b1
  go_wp2_with fail
  obtain ⟨E, hE⟩ : ∃ z, spE key ver s D = z := ⟨_, rfl⟩
  replace hE := Lib.hid hE
  obtain ⟨M, hM⟩ : ∃ z, spM key ver s D E = z := ⟨_, rfl⟩
  obtain ⟨l, hl⟩ : ∃ z, spL s D E = z := ⟨_, rfl⟩
  replace hM := Lib.hid hM
  replace hl := Lib.hid hl
  refine (split_any key ver s va vc D _ H2.out (by have := hm.out; omega) hcp.out hE.out hM.out hl.out).mono ?_
  rintro e u2 ⟨pv, rfl, hu, b2⟩
  have H4 := Lib.hid (H2.out.step b2)
  clear H2
  have H5 := Lib.hid (keep2 b2 H3.out)
  clear H3
  clear b2
  obtain ⟨ua, uc, rfl, -, -⟩ : ∃ (a : Option Addr) (c : Nat), pv = .slice a l.length c ∧ True ∧ True := by
    obtain ⟨a, c, e, -⟩ := hu
    exact ⟨a, c, e, trivial, trivial⟩
  have H6 := Lib.hid (hu)
  clear hu
  have H7 := Lib.hid (H4.out.step (al u2 (.cells #[.int .i64 M.v, .int .i64 M.c, .int .i64 M.s, .int .i64 M.r, .int .i64 M.t] 24)))
  clear H4
  have H8 := Lib.hid (H6.out.step (al u2 (.cells #[.int .i64 M.v, .int .i64 M.c, .int .i64 M.s, .int .i64 M.r, .int .i64 M.t] 24)))
  clear H6
  have H9 := Lib.hid (keep2 (al u2 (.cells #[.int .i64 M.v, .int .i64 M.c, .int .i64 M.s, .int .i64 M.r, .int .i64 M.t] 24)) H5.out)
  clear H5
  have H10 := Lib.hid (Cs.new u2 (u2.heap.size) #[.int .i64 M.v, .int .i64 M.c, .int .i64 M.s, .int .i64 M.r, .int .i64 M.t] 24 (by simp))
  have xm0 : (u2.alloc (.cells #[.int .i64 M.v, .int .i64 M.c, .int .i64 M.s, .int .i64 M.r, .int .i64 M.t] 24)).cell? ⟨(u2.heap.size), 0, none⟩ = some (.int .i64 M.v) := H10.out.c 0 rfl
  have xm1 : (u2.alloc (.cells #[.int .i64 M.v, .int .i64 M.c, .int .i64 M.s, .int .i64 M.r, .int .i64 M.t] 24)).cell? ⟨(u2.heap.size), 1, none⟩ = some (.int .i64 M.c) := H10.out.c 1 rfl
  have xm2 : (u2.alloc (.cells #[.int .i64 M.v, .int .i64 M.c, .int .i64 M.s, .int .i64 M.r, .int .i64 M.t] 24)).cell? ⟨(u2.heap.size), 2, none⟩ = some (.int .i64 M.s) := H10.out.c 2 rfl
  have xm3 : (u2.alloc (.cells #[.int .i64 M.v, .int .i64 M.c, .int .i64 M.s, .int .i64 M.r, .int .i64 M.t] 24)).cell? ⟨(u2.heap.size), 3, none⟩ = some (.int .i64 M.r) := H10.out.c 3 rfl
  have xm4 : (u2.alloc (.cells #[.int .i64 M.v, .int .i64 M.c, .int .i64 M.s, .int .i64 M.r, .int .i64 M.t] 24)).cell? ⟨(u2.heap.size), 4, none⟩ = some (.int .i64 M.t) := H10.out.c 4 rfl
  have zm : (u2.heap.size) < (u2.alloc (.cells #[.int .i64 M.v, .int .i64 M.c, .int .i64 M.s, .int .i64 M.r, .int .i64 M.t] 24)).heap.size := H10.out.2.2
  have g1 : decide ((D.length : Int) > 200) = true := by simp; have := hL.out; omega
  have g1b : decide ((200 : Int) < (D.length : Int)) = true := by simp; have := hL.out; omega
  go_wp2
  go_ret
  exact ⟨rfl, H9.out⟩
set_option maxRecDepth 100000 in
set_option maxHeartbeats 8000000 in
theorem ver_bad (key ver s : Int) (v : Value) (D : List Int) (used : Int) (w : World) (h : IntsAt w v D) (hcp : ∀ a n c, v = .slice a n c → n ≤ c) (hL : D.length ≤ 200) (hN : spE key ver s D ≠ 0) : Calls Try.prog 7 #[.int .i64 key, .int .i64 ver, .int .i64 s, v, .int .i64 used] w fun e w' => e = .returned (.bool true) ∧ Below w.heap.size w w' := by
  have H0 := Lib.hid (Below.refl w.heap.size w)
  have H1 := Lib.hid (h)
  replace hL := Lib.hid hL
  replace hN := Lib.hid hN
  obtain ⟨va, vc, rfl, hm, -⟩ := h
  unfold maxLen at hm
  replace hm := Lib.hid hm
  replace hcp := Lib.hid (hcp _ _ _ rfl)
  go_enter Try.func7, Try.ntmps7
  go_wp2_with fail
  refine (head_any _).mono ?_
  rintro e u1 ⟨rfl, b1⟩
  have H2 := Lib.hid (H1.out.step b1)
  clear H1
  have H3 := Lib.hid (keep2 b1 H0.out)
  clear H0
  clear b1
  go_wp2_with fail
  obtain ⟨E, hE⟩ : ∃ z, spE key ver s D = z := ⟨_, rfl⟩
  replace hE := Lib.hid hE
  obtain ⟨M, hM⟩ : ∃ z, spM key ver s D E = z := ⟨_, rfl⟩
  obtain ⟨l, hl⟩ : ∃ z, spL s D E = z := ⟨_, rfl⟩
  replace hM := Lib.hid hM
  replace hl := Lib.hid hl
  refine (split_any key ver s va vc D _ H2.out (by have := hm.out; omega) hcp.out hE.out hM.out hl.out).mono ?_
  rintro e u2 ⟨pv, rfl, hu, b2⟩
  have H4 := Lib.hid (H2.out.step b2)
  clear H2
  have H5 := Lib.hid (keep2 b2 H3.out)
  clear H3
  clear b2
  obtain ⟨ua, uc, rfl, -, -⟩ : ∃ (a : Option Addr) (c : Nat), pv = .slice a l.length c ∧ True ∧ True := by
    obtain ⟨a, c, e, -⟩ := hu
    exact ⟨a, c, e, trivial, trivial⟩
  have H6 := Lib.hid (hu)
  clear hu
  have H7 := Lib.hid (H4.out.step (al u2 (.cells #[.int .i64 M.v, .int .i64 M.c, .int .i64 M.s, .int .i64 M.r, .int .i64 M.t] 24)))
  clear H4
  have H8 := Lib.hid (H6.out.step (al u2 (.cells #[.int .i64 M.v, .int .i64 M.c, .int .i64 M.s, .int .i64 M.r, .int .i64 M.t] 24)))
  clear H6
  have H9 := Lib.hid (keep2 (al u2 (.cells #[.int .i64 M.v, .int .i64 M.c, .int .i64 M.s, .int .i64 M.r, .int .i64 M.t] 24)) H5.out)
  clear H5
  have H10 := Lib.hid (Cs.new u2 (u2.heap.size) #[.int .i64 M.v, .int .i64 M.c, .int .i64 M.s, .int .i64 M.r, .int .i64 M.t] 24 (by simp))
  have xm0 : (u2.alloc (.cells #[.int .i64 M.v, .int .i64 M.c, .int .i64 M.s, .int .i64 M.r, .int .i64 M.t] 24)).cell? ⟨(u2.heap.size), 0, none⟩ = some (.int .i64 M.v) := H10.out.c 0 rfl
  have xm1 : (u2.alloc (.cells #[.int .i64 M.v, .int .i64 M.c, .int .i64 M.s, .int .i64 M.r, .int .i64 M.t] 24)).cell? ⟨(u2.heap.size), 1, none⟩ = some (.int .i64 M.c) := H10.out.c 1 rfl
  have xm2 : (u2.alloc (.cells #[.int .i64 M.v, .int .i64 M.c, .int .i64 M.s, .int .i64 M.r, .int .i64 M.t] 24)).cell? ⟨(u2.heap.size), 2, none⟩ = some (.int .i64 M.s) := H10.out.c 2 rfl
  have xm3 : (u2.alloc (.cells #[.int .i64 M.v, .int .i64 M.c, .int .i64 M.s, .int .i64 M.r, .int .i64 M.t] 24)).cell? ⟨(u2.heap.size), 3, none⟩ = some (.int .i64 M.r) := H10.out.c 3 rfl
  have xm4 : (u2.alloc (.cells #[.int .i64 M.v, .int .i64 M.c, .int .i64 M.s, .int .i64 M.r, .int .i64 M.t] 24)).cell? ⟨(u2.heap.size), 4, none⟩ = some (.int .i64 M.t) := H10.out.c 4 rfl
  have zm : (u2.heap.size) < (u2.alloc (.cells #[.int .i64 M.v, .int .i64 M.c, .int .i64 M.s, .int .i64 M.r, .int .i64 M.t] 24)).heap.size := H10.out.2.2
  have HN := Lib.hid (show ¬ E = 0 from fun q => hN.out (hE.out.trans q))
  have g1 : decide ((D.length : Int) > 200) = false := by simp; have := hL.out; omega
  have g1b : decide ((200 : Int) < (D.length : Int)) = false := by simp; have := hL.out; omega
  have e1 : (E == 0) = false := by simpa using HN.out
  have e2 : (E = 0) = False := by simpa using HN.out
  have e3 : ¬ E = 0 := HN.out
  have e4 : (E != 0) = true := by simpa using HN.out
  go_wp2
  go_ret
  exact ⟨rfl, H9.out⟩
set_option maxRecDepth 100000 in
set_option maxHeartbeats 8000000 in
theorem ver_arg (key ver s : Int) (v : Value) (D : List Int) (used : Int) (w : World) (h : IntsAt w v D) (hcp : ∀ a n c, v = .slice a n c → n ≤ c) (hL : D.length ≤ 200) (hE : spE key ver s D = 0) (hU : inB 0 1000000 used = false) : Calls Try.prog 7 #[.int .i64 key, .int .i64 ver, .int .i64 s, v, .int .i64 used] w fun e w' => e = .returned (.bool true) ∧ Below w.heap.size w w' := by
  have H0 := Lib.hid (Below.refl w.heap.size w)
  have H1 := Lib.hid (h)
  replace hL := Lib.hid hL
  replace hE := Lib.hid hE
  replace hU := Lib.hid hU
  obtain ⟨va, vc, rfl, hm, -⟩ := h
  unfold maxLen at hm
  replace hm := Lib.hid hm
  replace hcp := Lib.hid (hcp _ _ _ rfl)
  go_enter Try.func7, Try.ntmps7
  go_wp2_with fail
  refine (head_any _).mono ?_
  rintro e u1 ⟨rfl, b1⟩
  have H2 := Lib.hid (H1.out.step b1)
  clear H1
  have H3 := Lib.hid (keep2 b1 H0.out)
  clear H0
  clear b1
  go_wp2_with fail
  obtain ⟨M, hM⟩ : ∃ z, spM key ver s D 0 = z := ⟨_, rfl⟩
  obtain ⟨l, hl⟩ : ∃ z, spL s D 0 = z := ⟨_, rfl⟩
  replace hM := Lib.hid hM
  replace hl := Lib.hid hl
  refine (split_any key ver s va vc D _ H2.out (by have := hm.out; omega) hcp.out hE.out hM.out hl.out).mono ?_
  rintro e u2 ⟨pv, rfl, hu, b2⟩
  have H4 := Lib.hid (H2.out.step b2)
  clear H2
  have H5 := Lib.hid (keep2 b2 H3.out)
  clear H3
  clear b2
  obtain ⟨ua, uc, rfl, -, -⟩ : ∃ (a : Option Addr) (c : Nat), pv = .slice a l.length c ∧ True ∧ True := by
    obtain ⟨a, c, e, -⟩ := hu
    exact ⟨a, c, e, trivial, trivial⟩
  have H6 := Lib.hid (hu)
  clear hu
  have H7 := Lib.hid (H4.out.step (al u2 (.cells #[.int .i64 M.v, .int .i64 M.c, .int .i64 M.s, .int .i64 M.r, .int .i64 M.t] 24)))
  clear H4
  have H8 := Lib.hid (H6.out.step (al u2 (.cells #[.int .i64 M.v, .int .i64 M.c, .int .i64 M.s, .int .i64 M.r, .int .i64 M.t] 24)))
  clear H6
  have H9 := Lib.hid (keep2 (al u2 (.cells #[.int .i64 M.v, .int .i64 M.c, .int .i64 M.s, .int .i64 M.r, .int .i64 M.t] 24)) H5.out)
  clear H5
  have H10 := Lib.hid (Cs.new u2 (u2.heap.size) #[.int .i64 M.v, .int .i64 M.c, .int .i64 M.s, .int .i64 M.r, .int .i64 M.t] 24 (by simp))
  have xm0 : (u2.alloc (.cells #[.int .i64 M.v, .int .i64 M.c, .int .i64 M.s, .int .i64 M.r, .int .i64 M.t] 24)).cell? ⟨(u2.heap.size), 0, none⟩ = some (.int .i64 M.v) := H10.out.c 0 rfl
  have xm1 : (u2.alloc (.cells #[.int .i64 M.v, .int .i64 M.c, .int .i64 M.s, .int .i64 M.r, .int .i64 M.t] 24)).cell? ⟨(u2.heap.size), 1, none⟩ = some (.int .i64 M.c) := H10.out.c 1 rfl
  have xm2 : (u2.alloc (.cells #[.int .i64 M.v, .int .i64 M.c, .int .i64 M.s, .int .i64 M.r, .int .i64 M.t] 24)).cell? ⟨(u2.heap.size), 2, none⟩ = some (.int .i64 M.s) := H10.out.c 2 rfl
  have xm3 : (u2.alloc (.cells #[.int .i64 M.v, .int .i64 M.c, .int .i64 M.s, .int .i64 M.r, .int .i64 M.t] 24)).cell? ⟨(u2.heap.size), 3, none⟩ = some (.int .i64 M.r) := H10.out.c 3 rfl
  have xm4 : (u2.alloc (.cells #[.int .i64 M.v, .int .i64 M.c, .int .i64 M.s, .int .i64 M.r, .int .i64 M.t] 24)).cell? ⟨(u2.heap.size), 4, none⟩ = some (.int .i64 M.t) := H10.out.c 4 rfl
  have zm : (u2.heap.size) < (u2.alloc (.cells #[.int .i64 M.v, .int .i64 M.c, .int .i64 M.s, .int .i64 M.r, .int .i64 M.t] 24)).heap.size := H10.out.2.2
  have g1 : decide ((D.length : Int) > 200) = false := by simp; have := hL.out; omega
  have g1b : decide ((200 : Int) < (D.length : Int)) = false := by simp; have := hL.out; omega
  have HB := Lib.hid (show bgE key used M = 1 by rw [← hM.out]; rw [bg_spM hE.out, if_pos hU.out])
  go_wp2_with fail
  refine (begin_any key used M HB.out (if_neg (by decide)) (if_neg (by decide)) _).mono ?_
  rintro e u3 ⟨sv, rfl, hu2, b3⟩
  clear xm0 xm1 xm2 xm3 xm4 zm
  have H11 := Lib.hid (H7.out.step b3)
  clear H7
  have H12 := Lib.hid (H8.out.step b3)
  clear H8
  have H13 := Lib.hid (H10.out.step b3)
  clear H10
  have H14 := Lib.hid (keep2 b3 H9.out)
  clear H9
  clear b3
  obtain ⟨uba, ubc, rfl, -, -⟩ : ∃ (a : Option Addr) (c : Nat), sv = .slice a 0 c ∧ True ∧ True := by
    obtain ⟨a, c, e, -⟩ := hu2
    exact ⟨a, c, e, trivial, trivial⟩
  clear hu2
  dsimp only [zMf]
  have H15 := Lib.hid (H11.out.step (al u3 (.cells #[.int .i64 0, .int .i64 0, .int .i64 0, .int .i64 0, .int .i64 0, .slice uba 0 ubc] 27)))
  clear H11
  have H16 := Lib.hid (H12.out.step (al u3 (.cells #[.int .i64 0, .int .i64 0, .int .i64 0, .int .i64 0, .int .i64 0, .slice uba 0 ubc] 27)))
  clear H12
  have H17 := Lib.hid (H13.out.step (al u3 (.cells #[.int .i64 0, .int .i64 0, .int .i64 0, .int .i64 0, .int .i64 0, .slice uba 0 ubc] 27)))
  clear H13
  have H18 := Lib.hid (keep2 (al u3 (.cells #[.int .i64 0, .int .i64 0, .int .i64 0, .int .i64 0, .int .i64 0, .slice uba 0 ubc] 27)) H14.out)
  clear H14
  have H19 := Lib.hid (Cs.new u3 (u3.heap.size) #[.int .i64 0, .int .i64 0, .int .i64 0, .int .i64 0, .int .i64 0, .slice uba 0 ubc] 27 (by simp))
  obtain ⟨lo, hlo⟩ : ∃ b, decide (used < 0) = b := ⟨_, rfl⟩
  have HU := Lib.hid (show used < 0 ∨ 1000000 < used by
    by_cases q1 : used < 0
    · exact .inl q1
    · by_cases q2 : 1000000 < used
      · exact .inr q2
      · have := hU.out; rw [inB_in q1 q2] at this; cases this)
  cases lo
  · have f1 : ¬ used < 0 := by simpa using hlo
    have f2 : 1000000 < used := HU.out.resolve_left f1
    have f3 : decide (used > 1000000) = true := decide_eq_true f2
    have f4 : decide (1000000 < used) = true := decide_eq_true f2
    go_wp2
    go_ret
    exact ⟨rfl, H18.out⟩
  · have f1 : used < 0 := by simpa using hlo
    go_wp2
    go_ret
    exact ⟨rfl, H18.out⟩
set_option maxRecDepth 100000 in
set_option maxHeartbeats 8000000 in
theorem ver_stale (key ver s : Int) (v : Value) (D : List Int) (used : Int) (w : World) (h : IntsAt w v D) (hcp : ∀ a n c, v = .slice a n c → n ≤ c) (hL : D.length ≤ 200) (hE : spE key ver s D = 0) (hU : inB 0 1000000 used = true) (hV : ver ≤ used) : Calls Try.prog 7 #[.int .i64 key, .int .i64 ver, .int .i64 s, v, .int .i64 used] w fun e w' => e = .returned (.bool true) ∧ Below w.heap.size w w' := by
  have H0 := Lib.hid (Below.refl w.heap.size w)
  have H1 := Lib.hid (h)
  replace hL := Lib.hid hL
  replace hE := Lib.hid hE
  replace hU := Lib.hid hU
  replace hV := Lib.hid hV
  obtain ⟨va, vc, rfl, hm, -⟩ := h
  unfold maxLen at hm
  replace hm := Lib.hid hm
  replace hcp := Lib.hid (hcp _ _ _ rfl)
  go_enter Try.func7, Try.ntmps7
  go_wp2_with fail
  refine (head_any _).mono ?_
  rintro e u1 ⟨rfl, b1⟩
  have H2 := Lib.hid (H1.out.step b1)
  clear H1
  have H3 := Lib.hid (keep2 b1 H0.out)
  clear H0
  clear b1
  go_wp2_with fail
  obtain ⟨M, hM⟩ : ∃ z, spM key ver s D 0 = z := ⟨_, rfl⟩
  obtain ⟨l, hl⟩ : ∃ z, spL s D 0 = z := ⟨_, rfl⟩
  replace hM := Lib.hid hM
  replace hl := Lib.hid hl
  refine (split_any key ver s va vc D _ H2.out (by have := hm.out; omega) hcp.out hE.out hM.out hl.out).mono ?_
  rintro e u2 ⟨pv, rfl, hu, b2⟩
  have H4 := Lib.hid (H2.out.step b2)
  clear H2
  have H5 := Lib.hid (keep2 b2 H3.out)
  clear H3
  clear b2
  obtain ⟨ua, uc, rfl, -, -⟩ : ∃ (a : Option Addr) (c : Nat), pv = .slice a l.length c ∧ True ∧ True := by
    obtain ⟨a, c, e, -⟩ := hu
    exact ⟨a, c, e, trivial, trivial⟩
  have H6 := Lib.hid (hu)
  clear hu
  have H7 := Lib.hid (H4.out.step (al u2 (.cells #[.int .i64 M.v, .int .i64 M.c, .int .i64 M.s, .int .i64 M.r, .int .i64 M.t] 24)))
  clear H4
  have H8 := Lib.hid (H6.out.step (al u2 (.cells #[.int .i64 M.v, .int .i64 M.c, .int .i64 M.s, .int .i64 M.r, .int .i64 M.t] 24)))
  clear H6
  have H9 := Lib.hid (keep2 (al u2 (.cells #[.int .i64 M.v, .int .i64 M.c, .int .i64 M.s, .int .i64 M.r, .int .i64 M.t] 24)) H5.out)
  clear H5
  have H10 := Lib.hid (Cs.new u2 (u2.heap.size) #[.int .i64 M.v, .int .i64 M.c, .int .i64 M.s, .int .i64 M.r, .int .i64 M.t] 24 (by simp))
  have xm0 : (u2.alloc (.cells #[.int .i64 M.v, .int .i64 M.c, .int .i64 M.s, .int .i64 M.r, .int .i64 M.t] 24)).cell? ⟨(u2.heap.size), 0, none⟩ = some (.int .i64 M.v) := H10.out.c 0 rfl
  have xm1 : (u2.alloc (.cells #[.int .i64 M.v, .int .i64 M.c, .int .i64 M.s, .int .i64 M.r, .int .i64 M.t] 24)).cell? ⟨(u2.heap.size), 1, none⟩ = some (.int .i64 M.c) := H10.out.c 1 rfl
  have xm2 : (u2.alloc (.cells #[.int .i64 M.v, .int .i64 M.c, .int .i64 M.s, .int .i64 M.r, .int .i64 M.t] 24)).cell? ⟨(u2.heap.size), 2, none⟩ = some (.int .i64 M.s) := H10.out.c 2 rfl
  have xm3 : (u2.alloc (.cells #[.int .i64 M.v, .int .i64 M.c, .int .i64 M.s, .int .i64 M.r, .int .i64 M.t] 24)).cell? ⟨(u2.heap.size), 3, none⟩ = some (.int .i64 M.r) := H10.out.c 3 rfl
  have xm4 : (u2.alloc (.cells #[.int .i64 M.v, .int .i64 M.c, .int .i64 M.s, .int .i64 M.r, .int .i64 M.t] 24)).cell? ⟨(u2.heap.size), 4, none⟩ = some (.int .i64 M.t) := H10.out.c 4 rfl
  have zm : (u2.heap.size) < (u2.alloc (.cells #[.int .i64 M.v, .int .i64 M.c, .int .i64 M.s, .int .i64 M.r, .int .i64 M.t] 24)).heap.size := H10.out.2.2
  have g1 : decide ((D.length : Int) > 200) = false := by simp; have := hL.out; omega
  have g1b : decide ((200 : Int) < (D.length : Int)) = false := by simp; have := hL.out; omega
  have HB := Lib.hid (show bgE key used M = 31 by rw [← hM.out]; rw [bg_spM hE.out, if_neg (by rw [hU.out]; decide), if_pos hV.out])
  go_wp2_with fail
  refine (begin_any key used M HB.out (if_neg (by decide)) (if_neg (by decide)) _).mono ?_
  rintro e u3 ⟨sv, rfl, hu2, b3⟩
  clear xm0 xm1 xm2 xm3 xm4 zm
  have H11 := Lib.hid (H7.out.step b3)
  clear H7
  have H12 := Lib.hid (H8.out.step b3)
  clear H8
  have H13 := Lib.hid (H10.out.step b3)
  clear H10
  have H14 := Lib.hid (keep2 b3 H9.out)
  clear H9
  clear b3
  obtain ⟨uba, ubc, rfl, -, -⟩ : ∃ (a : Option Addr) (c : Nat), sv = .slice a 0 c ∧ True ∧ True := by
    obtain ⟨a, c, e, -⟩ := hu2
    exact ⟨a, c, e, trivial, trivial⟩
  clear hu2
  dsimp only [zMf]
  have H15 := Lib.hid (H11.out.step (al u3 (.cells #[.int .i64 0, .int .i64 0, .int .i64 0, .int .i64 0, .int .i64 0, .slice uba 0 ubc] 27)))
  clear H11
  have H16 := Lib.hid (H12.out.step (al u3 (.cells #[.int .i64 0, .int .i64 0, .int .i64 0, .int .i64 0, .int .i64 0, .slice uba 0 ubc] 27)))
  clear H12
  have H17 := Lib.hid (H13.out.step (al u3 (.cells #[.int .i64 0, .int .i64 0, .int .i64 0, .int .i64 0, .int .i64 0, .slice uba 0 ubc] 27)))
  clear H13
  have H18 := Lib.hid (keep2 (al u3 (.cells #[.int .i64 0, .int .i64 0, .int .i64 0, .int .i64 0, .int .i64 0, .slice uba 0 ubc] 27)) H14.out)
  clear H14
  have H19 := Lib.hid (Cs.new u3 (u3.heap.size) #[.int .i64 0, .int .i64 0, .int .i64 0, .int .i64 0, .int .i64 0, .slice uba 0 ubc] 27 (by simp))
  have q1 := inB_iff.1 hU.out
  have f1 : decide (used < 0) = false := decide_eq_false (by omega)
  have f2 : decide (used > 1000000) = false := decide_eq_false (by omega)
  have f3 : decide (1000000 < used) = false := decide_eq_false (by omega)
  have f4 : decide (used ≥ ver) = true := decide_eq_true hV.out
  have f5 : decide (ver ≤ used) = true := decide_eq_true hV.out
  clear q1
  go_wp2
  go_ret
  exact ⟨rfl, H18.out⟩
set_option maxRecDepth 100000 in
set_option maxHeartbeats 8000000 in
theorem ver_ok (key ver s : Int) (v : Value) (D : List Int) (used : Int) (w : World) (h : IntsAt w v D) (hcp : ∀ a n c, v = .slice a n c → n ≤ c) (hL : D.length ≤ 200) (hE : spE key ver s D = 0) (hU : inB 0 1000000 used = true) (hV : ¬ ver ≤ used) : Calls Try.prog 7 #[.int .i64 key, .int .i64 ver, .int .i64 s, v, .int .i64 used] w fun e w' => e = .returned (.bool true) ∧ Below w.heap.size w w' := by
  have H0 := Lib.hid (Below.refl w.heap.size w)
  have H1 := Lib.hid (h)
  replace hL := Lib.hid hL
  replace hE := Lib.hid hE
  replace hU := Lib.hid hU
  replace hV := Lib.hid hV
  obtain ⟨va, vc, rfl, hm, -⟩ := h
  unfold maxLen at hm
  replace hm := Lib.hid hm
  replace hcp := Lib.hid (hcp _ _ _ rfl)
  go_enter Try.func7, Try.ntmps7
  go_wp2_with fail
  refine (head_any _).mono ?_
  rintro e u1 ⟨rfl, b1⟩
  have H2 := Lib.hid (H1.out.step b1)
  clear H1
  have H3 := Lib.hid (keep2 b1 H0.out)
  clear H0
  clear b1
  go_wp2_with fail
  obtain ⟨M, hM⟩ : ∃ z, spM key ver s D 0 = z := ⟨_, rfl⟩
  obtain ⟨l, hl⟩ : ∃ z, spL s D 0 = z := ⟨_, rfl⟩
  replace hM := Lib.hid hM
  replace hl := Lib.hid hl
  refine (split_any key ver s va vc D _ H2.out (by have := hm.out; omega) hcp.out hE.out hM.out hl.out).mono ?_
  rintro e u2 ⟨pv, rfl, hu, b2⟩
  have H4 := Lib.hid (H2.out.step b2)
  clear H2
  have H5 := Lib.hid (keep2 b2 H3.out)
  clear H3
  clear b2
  obtain ⟨ua, uc, rfl, -, -⟩ : ∃ (a : Option Addr) (c : Nat), pv = .slice a l.length c ∧ True ∧ True := by
    obtain ⟨a, c, e, -⟩ := hu
    exact ⟨a, c, e, trivial, trivial⟩
  have H6 := Lib.hid (hu)
  clear hu
  have H7 := Lib.hid (H4.out.step (al u2 (.cells #[.int .i64 M.v, .int .i64 M.c, .int .i64 M.s, .int .i64 M.r, .int .i64 M.t] 24)))
  clear H4
  have H8 := Lib.hid (H6.out.step (al u2 (.cells #[.int .i64 M.v, .int .i64 M.c, .int .i64 M.s, .int .i64 M.r, .int .i64 M.t] 24)))
  clear H6
  have H9 := Lib.hid (keep2 (al u2 (.cells #[.int .i64 M.v, .int .i64 M.c, .int .i64 M.s, .int .i64 M.r, .int .i64 M.t] 24)) H5.out)
  clear H5
  have H10 := Lib.hid (Cs.new u2 (u2.heap.size) #[.int .i64 M.v, .int .i64 M.c, .int .i64 M.s, .int .i64 M.r, .int .i64 M.t] 24 (by simp))
  have xm0 : (u2.alloc (.cells #[.int .i64 M.v, .int .i64 M.c, .int .i64 M.s, .int .i64 M.r, .int .i64 M.t] 24)).cell? ⟨(u2.heap.size), 0, none⟩ = some (.int .i64 M.v) := H10.out.c 0 rfl
  have xm1 : (u2.alloc (.cells #[.int .i64 M.v, .int .i64 M.c, .int .i64 M.s, .int .i64 M.r, .int .i64 M.t] 24)).cell? ⟨(u2.heap.size), 1, none⟩ = some (.int .i64 M.c) := H10.out.c 1 rfl
  have xm2 : (u2.alloc (.cells #[.int .i64 M.v, .int .i64 M.c, .int .i64 M.s, .int .i64 M.r, .int .i64 M.t] 24)).cell? ⟨(u2.heap.size), 2, none⟩ = some (.int .i64 M.s) := H10.out.c 2 rfl
  have xm3 : (u2.alloc (.cells #[.int .i64 M.v, .int .i64 M.c, .int .i64 M.s, .int .i64 M.r, .int .i64 M.t] 24)).cell? ⟨(u2.heap.size), 3, none⟩ = some (.int .i64 M.r) := H10.out.c 3 rfl
  have xm4 : (u2.alloc (.cells #[.int .i64 M.v, .int .i64 M.c, .int .i64 M.s, .int .i64 M.r, .int .i64 M.t] 24)).cell? ⟨(u2.heap.size), 4, none⟩ = some (.int .i64 M.t) := H10.out.c 4 rfl
  have zm : (u2.heap.size) < (u2.alloc (.cells #[.int .i64 M.v, .int .i64 M.c, .int .i64 M.s, .int .i64 M.r, .int .i64 M.t] 24)).heap.size := H10.out.2.2
  have g1 : decide ((D.length : Int) > 200) = false := by simp; have := hL.out; omega
  have g1b : decide ((200 : Int) < (D.length : Int)) = false := by simp; have := hL.out; omega
  have HB := Lib.hid (show bgE key used M = 0 by rw [← hM.out]; rw [bg_spM hE.out, if_neg (by rw [hU.out]; decide), if_neg (by have := hV.out; omega)])
  go_wp2_with fail
  refine (begin_any key used M HB.out (if_pos rfl) (if_pos rfl) _).mono ?_
  rintro e u3 ⟨sv, rfl, hu2, b3⟩
  clear xm0 xm1 xm2 xm3 xm4 zm
  have H11 := Lib.hid (H7.out.step b3)
  clear H7
  have H12 := Lib.hid (H8.out.step b3)
  clear H8
  have H13 := Lib.hid (H10.out.step b3)
  clear H10
  have H14 := Lib.hid (keep2 b3 H9.out)
  clear H9
  clear b3
  have HMB := Lib.hid (show mfB M = true by rw [← hM.out]; exact spM_ok hE.out)
  obtain ⟨n, hn⟩ : ∃ z, chN D.length s.toNat = z := ⟨_, rfl⟩
  have HMC := Lib.hid (show M.c.toNat = n by rw [← hM.out, spM_eq, ← hn]; simp)
  have HLN := Lib.hid (show l.length = n by rw [← hl.out, ← hn, spL_len])
  have HN9 := Lib.hid (show n ≤ 64 by rw [← hn]; exact (spE_ok hE.out).2.2.2.2.2)
  clear hn
  rw [HMC.out] at hu2
  obtain ⟨uba, ubc, rfl, -, -⟩ : ∃ (a : Option Addr) (c : Nat), sv = .slice a n c ∧ True ∧ True := by
    obtain ⟨a, c, e, -⟩ := hu2
    rw [List.length_replicate] at e
    exact ⟨a, c, e, trivial, trivial⟩
  have H15 := Lib.hid (hu2)
  clear hu2
  have H16 := Lib.hid (H11.out.step (al u3 (.cells #[.int .i64 M.v, .int .i64 M.c, .int .i64 M.s, .int .i64 M.r, .int .i64 M.t, .slice uba n ubc] 27)))
  clear H11
  have H17 := Lib.hid (H12.out.step (al u3 (.cells #[.int .i64 M.v, .int .i64 M.c, .int .i64 M.s, .int .i64 M.r, .int .i64 M.t, .slice uba n ubc] 27)))
  clear H12
  have H18 := Lib.hid (H13.out.step (al u3 (.cells #[.int .i64 M.v, .int .i64 M.c, .int .i64 M.s, .int .i64 M.r, .int .i64 M.t, .slice uba n ubc] 27)))
  clear H13
  have H19 := Lib.hid (H15.out.step (al u3 (.cells #[.int .i64 M.v, .int .i64 M.c, .int .i64 M.s, .int .i64 M.r, .int .i64 M.t, .slice uba n ubc] 27)))
  clear H15
  have H20 := Lib.hid (keep2 (al u3 (.cells #[.int .i64 M.v, .int .i64 M.c, .int .i64 M.s, .int .i64 M.r, .int .i64 M.t, .slice uba n ubc] 27)) H14.out)
  clear H14
  have H21 := Lib.hid (Cs.new u3 (u3.heap.size) #[.int .i64 M.v, .int .i64 M.c, .int .i64 M.s, .int .i64 M.r, .int .i64 M.t, .slice uba n ubc] 27 (by simp))
  have xs0 : (u3.alloc (.cells #[.int .i64 M.v, .int .i64 M.c, .int .i64 M.s, .int .i64 M.r, .int .i64 M.t, .slice uba n ubc] 27)).cell? ⟨(u3.heap.size), 0, none⟩ = some (.int .i64 M.v) := H21.out.c 0 rfl
  have xs1 : (u3.alloc (.cells #[.int .i64 M.v, .int .i64 M.c, .int .i64 M.s, .int .i64 M.r, .int .i64 M.t, .slice uba n ubc] 27)).cell? ⟨(u3.heap.size), 1, none⟩ = some (.int .i64 M.c) := H21.out.c 1 rfl
  have xs2 : (u3.alloc (.cells #[.int .i64 M.v, .int .i64 M.c, .int .i64 M.s, .int .i64 M.r, .int .i64 M.t, .slice uba n ubc] 27)).cell? ⟨(u3.heap.size), 2, none⟩ = some (.int .i64 M.s) := H21.out.c 2 rfl
  have xs3 : (u3.alloc (.cells #[.int .i64 M.v, .int .i64 M.c, .int .i64 M.s, .int .i64 M.r, .int .i64 M.t, .slice uba n ubc] 27)).cell? ⟨(u3.heap.size), 3, none⟩ = some (.int .i64 M.r) := H21.out.c 3 rfl
  have xs4 : (u3.alloc (.cells #[.int .i64 M.v, .int .i64 M.c, .int .i64 M.s, .int .i64 M.r, .int .i64 M.t, .slice uba n ubc] 27)).cell? ⟨(u3.heap.size), 4, none⟩ = some (.int .i64 M.t) := H21.out.c 4 rfl
  have xs5 : (u3.alloc (.cells #[.int .i64 M.v, .int .i64 M.c, .int .i64 M.s, .int .i64 M.r, .int .i64 M.t, .slice uba n ubc] 27)).cell? ⟨(u3.heap.size), 5, none⟩ = some (.slice uba n ubc) := H21.out.c 5 rfl
  have zs : (u3.heap.size) < (u3.alloc (.cells #[.int .i64 M.v, .int .i64 M.c, .int .i64 M.s, .int .i64 M.r, .int .i64 M.t, .slice uba n ubc] 27)).heap.size := H21.out.2.2
  have xm0 : (u3.alloc (.cells #[.int .i64 M.v, .int .i64 M.c, .int .i64 M.s, .int .i64 M.r, .int .i64 M.t, .slice uba n ubc] 27)).cell? ⟨(u2.heap.size), 0, none⟩ = some (.int .i64 M.v) := H18.out.c 0 rfl
  have xm1 : (u3.alloc (.cells #[.int .i64 M.v, .int .i64 M.c, .int .i64 M.s, .int .i64 M.r, .int .i64 M.t, .slice uba n ubc] 27)).cell? ⟨(u2.heap.size), 1, none⟩ = some (.int .i64 M.c) := H18.out.c 1 rfl
  have xm2 : (u3.alloc (.cells #[.int .i64 M.v, .int .i64 M.c, .int .i64 M.s, .int .i64 M.r, .int .i64 M.t, .slice uba n ubc] 27)).cell? ⟨(u2.heap.size), 2, none⟩ = some (.int .i64 M.s) := H18.out.c 2 rfl
  have xm3 : (u3.alloc (.cells #[.int .i64 M.v, .int .i64 M.c, .int .i64 M.s, .int .i64 M.r, .int .i64 M.t, .slice uba n ubc] 27)).cell? ⟨(u2.heap.size), 3, none⟩ = some (.int .i64 M.r) := H18.out.c 3 rfl
  have xm4 : (u3.alloc (.cells #[.int .i64 M.v, .int .i64 M.c, .int .i64 M.s, .int .i64 M.r, .int .i64 M.t, .slice uba n ubc] 27)).cell? ⟨(u2.heap.size), 4, none⟩ = some (.int .i64 M.t) := H18.out.c 4 rfl
  have zm : (u2.heap.size) < (u3.alloc (.cells #[.int .i64 M.v, .int .i64 M.c, .int .i64 M.s, .int .i64 M.r, .int .i64 M.t, .slice uba n ubc] 27)).heap.size := H18.out.2.2
  have q1 := inB_iff.1 hU.out
  have f1 : decide (used < 0) = false := decide_eq_false (by omega)
  have f2 : decide (used > 1000000) = false := decide_eq_false (by omega)
  have f3 : decide (1000000 < used) = false := decide_eq_false (by omega)
  have f4 : decide (used ≥ ver) = false := decide_eq_false (show ¬ ver ≤ used by have := hV.out; omega)
  have f5 : decide (ver ≤ used) = false := decide_eq_false (show ¬ ver ≤ used by have := hV.out; omega)
  clear q1
  go_wp2_with fail
  have HJ := Lib.hid (show joE M (List.replicate n []) = 28 by rw [← HMC.out]; exact jo_new HMB.out)
  have HJ2 := Lib.hid (show (msB M (List.replicate n [])).length = n by rw [← HMC.out]; exact msB_new HMB.out)
  refine (join_any M _ (List.replicate n []) _ H19.out (by rw [List.length_replicate]; have := HN9.out; omega) (fun x hx => by rw [List.eq_of_mem_replicate hx]; simp) (by simp) HJ.out (if_neg (by decide))).mono ?_
  rintro e u4 ⟨jv, rfl, hu3, b4⟩
  clear xs0 xs1 xs2 xs3 xs4 xs5 zs xm0 xm1 xm2 xm3 xm4 zm
  have H22 := Lib.hid (H16.out.step b4)
  clear H16
  have H23 := Lib.hid (H17.out.step b4)
  clear H17
  have H24 := Lib.hid (H18.out.step b4)
  clear H18
  have H25 := Lib.hid (H19.out.step b4)
  clear H19
  have H26 := Lib.hid (H21.out.step b4)
  clear H21
  have H27 := Lib.hid (keep2 b4 H20.out)
  clear H20
  clear b4
  clear hu3
  have xs0 : u4.cell? ⟨(u3.heap.size), 0, none⟩ = some (.int .i64 M.v) := H26.out.c 0 rfl
  have xs1 : u4.cell? ⟨(u3.heap.size), 1, none⟩ = some (.int .i64 M.c) := H26.out.c 1 rfl
  have xs2 : u4.cell? ⟨(u3.heap.size), 2, none⟩ = some (.int .i64 M.s) := H26.out.c 2 rfl
  have xs3 : u4.cell? ⟨(u3.heap.size), 3, none⟩ = some (.int .i64 M.r) := H26.out.c 3 rfl
  have xs4 : u4.cell? ⟨(u3.heap.size), 4, none⟩ = some (.int .i64 M.t) := H26.out.c 4 rfl
  have xs5 : u4.cell? ⟨(u3.heap.size), 5, none⟩ = some (.slice uba n ubc) := H26.out.c 5 rfl
  have zs : (u3.heap.size) < u4.heap.size := H26.out.2.2
  have xm0 : u4.cell? ⟨(u2.heap.size), 0, none⟩ = some (.int .i64 M.v) := H24.out.c 0 rfl
  have xm1 : u4.cell? ⟨(u2.heap.size), 1, none⟩ = some (.int .i64 M.c) := H24.out.c 1 rfl
  have xm2 : u4.cell? ⟨(u2.heap.size), 2, none⟩ = some (.int .i64 M.s) := H24.out.c 2 rfl
  have xm3 : u4.cell? ⟨(u2.heap.size), 3, none⟩ = some (.int .i64 M.r) := H24.out.c 3 rfl
  have xm4 : u4.cell? ⟨(u2.heap.size), 4, none⟩ = some (.int .i64 M.t) := H24.out.c 4 rfl
  have zm : (u2.heap.size) < u4.heap.size := H24.out.2.2
  have q24 : ∀ (W : World), (binOp .eql 24 (.agg #[.int .i64 M.v, .int .i64 M.c, .int .i64 M.s, .int .i64 M.r, .int .i64 M.t]) (.agg #[.int .i64 M.v, .int .i64 M.c, .int .i64 M.s, .int .i64 M.r, .int .i64 M.t])).run Try.prog W = .ok (.bool true) W := eq_self M
  go_wp2_with fail
  refine (miss_any M _ (List.replicate n []) _ H25.out (by rw [List.length_replicate]; have := HN9.out; omega) (fun x hx => by rw [List.eq_of_mem_replicate hx]; simp)).mono ?_
  rintro e u5 ⟨mv, rfl, hu4, b5⟩
  clear xs0 xs1 xs2 xs3 xs4 xs5 zs xm0 xm1 xm2 xm3 xm4 zm
  have H28 := Lib.hid (H22.out.step b5)
  clear H22
  have H29 := Lib.hid (H23.out.step b5)
  clear H23
  have H30 := Lib.hid (H24.out.step b5)
  clear H24
  have H31 := Lib.hid (H25.out.step b5)
  clear H25
  have H32 := Lib.hid (H26.out.step b5)
  clear H26
  have H33 := Lib.hid (keep2 b5 H27.out)
  clear H27
  clear b5
  obtain ⟨wa, wc, rfl⟩ : ∃ (a : Option Addr) (c : Nat), mv = .slice a n c := by
    obtain ⟨a, c, e, -⟩ := hu4
    rw [HJ2.out] at e
    exact ⟨a, c, e⟩
  clear hu4
  rw [HLN.out]
  go_wp2
  go_ret
  exact ⟨rfl, H33.out⟩
theorem versions_any (key ver s : Int) (v : Value) (D : List Int) (used : Int) (w : World) (h : IntsAt w v D) (hcp : ∀ a n c, v = .slice a n c → n ≤ c) : Calls Try.prog 7 #[.int .i64 key, .int .i64 ver, .int .i64 s, v, .int .i64 used] w fun e w' => e = .returned (.bool true) ∧ Below w.heap.size w w' := by
  by_cases hL : 200 < D.length
  · exact ver_long key ver s v D used w h hcp hL
  · by_cases hE : spE key ver s D = 0
    · cases hU : inB 0 1000000 used
      · exact ver_arg key ver s v D used w h hcp (by omega) hE hU
      · by_cases hV : ver ≤ used
        · exact ver_stale key ver s v D used w h hcp (by omega) hE hU hV
        · exact ver_ok key ver s v D used w h hcp (by omega) hE hU hV
    · exact ver_bad key ver s v D used w h hcp (by omega) hE
end Go.Proofs.Yteodafhgfcbdpaa
