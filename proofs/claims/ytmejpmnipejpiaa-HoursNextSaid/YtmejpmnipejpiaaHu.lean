/- Law HoursNext, the walk. -/
import Derived.Test.YtmejpmnipejpiaaHt
namespace Go.Proofs.Ytmejpmnipejpiaa
open Go.RowKit

set_option maxRecDepth 100000 in
set_option maxHeartbeats 8000000 in
theorem hn_a (v : Value) (l : List (Int × Int)) (m r : Int) (w : World) (h : WinsAt w v l) (hf : fine l m = false) : Calls Try.prog 5 #[v, .int .i64 m, .int .u16 r] w fun e w' => e = .returned (.bool true) ∧ Below w.heap.size w w' := by
  have HI0 := Lib.hid h
  obtain ⟨va, vc, rfl, -, hm9, -⟩ := h
  unfold maxLen at hm9
  replace hf := Lib.hid hf
  have HB0 := Lib.hid (Below.refl w.heap.size w)
  go_enter Try.func5, Try.ntmps5
  go_wp2_with fail
  refine (head_any _).mono ?_
  rintro e u1 ⟨rfl, b1⟩
  have FL_1 := Lib.hid (HI0.out.step b1)
  clear HI0
  have HB2 := Lib.hid (keep2 b1 HB0.out)
  clear HB0 b1
  go_wp2_with fail
  refine (fine_q _ l m _ hf.out _ FL_1.out).mono ?_
  rintro e u2 ⟨rfl, b2⟩
  have FL_3 := Lib.hid (FL_1.out.step b2)
  clear FL_1
  have HB4 := Lib.hid (keep2 b2 HB2.out)
  clear HB2 b2
  go_wp2
  go_ret
  exact ⟨rfl, HB4.out⟩
set_option maxRecDepth 100000 in
set_option maxHeartbeats 8000000 in
theorem hn_b (v : Value) (l : List (Int × Int)) (m r : Int) (w : World) (h : WinsAt w v l) (r0 : 0 ≤ r) (r1 : r ≤ 65535) (hf : fine l m = true) (hnx : nxV l m = (0, false)) (hr9 : ∀ r : Nat, r ≤ 65535 → qui l (m + r) = qui l m) : Calls Try.prog 5 #[v, .int .i64 m, .int .u16 r] w fun e w' => e = .returned (.bool true) ∧ Below w.heap.size w w' := by
  have HI0 := Lib.hid h
  obtain ⟨va, vc, rfl, -, hm9, -⟩ := h
  unfold maxLen at hm9
  have hb := (fine_iff.1 hf).2
  obtain ⟨rn, rfl⟩ := Int.eq_ofNat_of_zero_le r0
  obtain ⟨qb, hqb⟩ : ∃ z, qui l m = z := ⟨_, rfl⟩
  replace hr9 := hr9 rn (by omega)
  rw [hqb] at hr9
  replace hf := Lib.hid hf
  replace hnx := Lib.hid hnx
  replace hqb := Lib.hid hqb
  replace hr9 := Lib.hid hr9
  have HB0 := Lib.hid (Below.refl w.heap.size w)
  go_enter Try.func5, Try.ntmps5
  go_wp2_with fail
  refine (head_any _).mono ?_
  rintro e u1 ⟨rfl, b1⟩
  have FL_1 := Lib.hid (HI0.out.step b1)
  clear HI0
  have HB2 := Lib.hid (keep2 b1 HB0.out)
  clear HB0 b1
  go_wp2_with fail
  refine (fine_q _ l m _ hf.out _ FL_1.out).mono ?_
  rintro e u2 ⟨rfl, b2⟩
  have FL_3 := Lib.hid (FL_1.out.step b2)
  clear FL_1
  have HB4 := Lib.hid (keep2 b2 HB2.out)
  clear HB2 b2
  go_wp2_with fail
  refine (quiet_q _ l m _ hqb.out _ FL_3.out).mono ?_
  rintro e u3 ⟨rfl, b3⟩
  have FL_5 := Lib.hid (FL_3.out.step b3)
  clear FL_3
  have HB6 := Lib.hid (keep2 b3 HB4.out)
  clear HB4 b3
  go_wp2_with fail
  refine (next_q _ l m _ _ hnx.out _ FL_5.out).mono ?_
  rintro e u4 ⟨rfl, b4⟩
  have FL_7 := Lib.hid (FL_5.out.step b4)
  clear FL_5
  have HB8 := Lib.hid (keep2 b4 HB6.out)
  clear HB6 b4
  go_wp2_with fail
  refine (quiet_q _ l (m + (rn : Int)) _ hr9.out _ FL_7.out).mono ?_
  rintro e u5 ⟨rfl, b5⟩
  have FL_9 := Lib.hid (FL_7.out.step b5)
  clear FL_7
  have HB10 := Lib.hid (keep2 b5 HB8.out)
  clear HB8 b5
  go_wp2
  go_ret
  exact ⟨rfl, HB10.out⟩
set_option maxRecDepth 100000 in
set_option maxHeartbeats 8000000 in
theorem hn_c (v : Value) (l : List (Int × Int)) (m r : Int) (w : World) (h : WinsAt w v l) (r0 : 0 ≤ r) (r1 : r ≤ 65535) (hf : fine l m = true) (n : Nat) (n1 : 1 ≤ n) (n2 : n ≤ 1440) (hnx : nxV l m = ((n : Int), true)) (hq9 : qui l (m + n) = (!qui l m)) (hr9 : ∀ r : Nat, r < n → qui l (m + r) = qui l m) : Calls Try.prog 5 #[v, .int .i64 m, .int .u16 r] w fun e w' => e = .returned (.bool true) ∧ Below w.heap.size w w' := by
  have HI0 := Lib.hid h
  obtain ⟨va, vc, rfl, -, hm9, -⟩ := h
  unfold maxLen at hm9
  have hb := (fine_iff.1 hf).2
  obtain ⟨rn, rfl⟩ := Int.eq_ofNat_of_zero_le r0
  obtain ⟨k, hk⟩ : ∃ k, rn % n = k := ⟨_, rfl⟩
  have hkn : k < n := by rw [← hk]; exact Nat.mod_lt _ (by omega)
  replace hr9 := hr9 k hkn
  cases hqb : qui l m
  all_goals
    rw [hqb] at hr9 hq9
    have k1 : ((rn : Int) % (n : Int)) = (k : Int) := by rw [← hk]; omega
    have k2 : (rn : Int).tmod (n : Int) = (k : Int) := by rw [Int.tmod_eq_emod_of_nonneg (by omega), k1]
    have l0 : ¬ n = 0 := by omega
    have l1 : ¬ (n : Int) < 1 := by omega
    have l2 : ¬ (1440 : Int) < (n : Int) := by omega
    have l3 : decide ((n : Int) < 1) = false := by simp; omega
    have l4 : decide ((n : Int) > 1440) = false := by simp; omega
    have l5 : decide ((1440 : Int) < (n : Int)) = false := by simp; omega
    have l6 : ((n : Int) = 0) = False := by simp; omega
    clear hk
    replace hf := Lib.hid hf
    replace hnx := Lib.hid hnx
    replace hqb := Lib.hid hqb
    replace hr9 := Lib.hid hr9
    replace hq9 := Lib.hid hq9
    have HB0 := Lib.hid (Below.refl w.heap.size w)
    go_enter Try.func5, Try.ntmps5
    go_wp2_with fail
    refine (head_any _).mono ?_
    rintro e u1 ⟨rfl, b1⟩
    have FL_1 := Lib.hid (HI0.out.step b1)
    clear HI0
    have HB2 := Lib.hid (keep2 b1 HB0.out)
    clear HB0 b1
    go_wp2_with fail
    refine (fine_q _ l m _ hf.out _ FL_1.out).mono ?_
    rintro e u2 ⟨rfl, b2⟩
    have FL_3 := Lib.hid (FL_1.out.step b2)
    clear FL_1
    have HB4 := Lib.hid (keep2 b2 HB2.out)
    clear HB2 b2
    go_wp2_with fail
    refine (quiet_q _ l m _ hqb.out _ FL_3.out).mono ?_
    rintro e u3 ⟨rfl, b3⟩
    have FL_5 := Lib.hid (FL_3.out.step b3)
    clear FL_3
    have HB6 := Lib.hid (keep2 b3 HB4.out)
    clear HB4 b3
    go_wp2_with fail
    refine (next_q _ l m _ _ hnx.out _ FL_5.out).mono ?_
    rintro e u4 ⟨rfl, b4⟩
    have FL_7 := Lib.hid (FL_5.out.step b4)
    clear FL_5
    have HB8 := Lib.hid (keep2 b4 HB6.out)
    clear HB6 b4
    go_wp2_with fail
    refine (quiet_q _ l (m + (n : Int)) _ hq9.out _ FL_7.out).mono ?_
    rintro e u5 ⟨rfl, b5⟩
    have FL_9 := Lib.hid (FL_7.out.step b5)
    clear FL_7
    have HB10 := Lib.hid (keep2 b5 HB8.out)
    clear HB8 b5
    go_wp2_with fail
    refine (quiet_q _ l (m + (k : Int)) _ hr9.out _ FL_9.out).mono ?_
    rintro e u6 ⟨rfl, b6⟩
    have FL_11 := Lib.hid (FL_9.out.step b6)
    clear FL_9
    have HB12 := Lib.hid (keep2 b6 HB10.out)
    clear HB10 b6
    go_wp2
    go_ret
    exact ⟨rfl, HB12.out⟩
theorem lnext_any (v : Value) (l : List (Int × Int)) (m r : Int) (w : World) (h : WinsAt w v l) (r0 : 0 ≤ r) (r1 : r ≤ 65535) : Calls Try.prog 5 #[v, .int .i64 m, .int .u16 r] w fun e w' => e = .returned (.bool true) ∧ Below w.heap.size w w' := by
  cases hf : fine l m
  · exact hn_a v l m r w h hf
  · rcases next_facts hf with ⟨h1, h2⟩ | ⟨n, n1, n2, h1, h2, h3⟩
    · exact hn_b v l m r w h r0 r1 hf h1 h2
    · exact hn_c v l m r w h r0 r1 hf n n1 n2 h1 h2 h3
end Go.Proofs.Ytmejpmnipejpiaa
