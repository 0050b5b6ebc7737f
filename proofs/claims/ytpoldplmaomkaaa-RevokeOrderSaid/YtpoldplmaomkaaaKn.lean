/- Capabilities: the reference's check of one caveat. -/
import Derived.Test.YtpoldplmaomkaaaKm
namespace Go.Proofs.Ytpoldplmaomkaaa
open Go.RowKit

set_option maxRecDepth 100000 in
set_option maxHeartbeats 2000000 in
theorem one1_any (r v x t u y : Int) (w : World) : Calls Try.prog 67 #[.agg #[.int .i64 1, .int .i64 y], .agg #[.int .i64 r, .int .i64 v, .int .i64 x, .int .i64 t], .int .i64 u] w fun e w' => e = .returned (.int .i64 (ckE r v t u 1 y)) ∧ Below w.heap.size w w' := by
  by_cases hc : r = y
  · have HR := Lib.hid (show ckE r v t u 1 y = 0 by rw [one_is]; simp [hc])
    have q1 : (r != y) = false := by simpa using hc
    have q2 : (r == y) = true := by simpa using hc
    have q3 : decide (r = y) = true := by simpa using hc
    clear hc
    go_enter Try.func67, Try.ntmps67
    go_wp2
    go_ret
    exact ⟨ret_int HR.out.symm, al2⟩
  · have HR := Lib.hid (show ckE r v t u 1 y = 18 by rw [one_is]; simp [hc])
    have q1 : (r != y) = true := by simpa using hc
    have q2 : (r == y) = false := by simpa using hc
    have q3 : decide (r = y) = false := by simpa using hc
    clear hc
    go_enter Try.func67, Try.ntmps67
    go_wp2
    go_ret
    exact ⟨ret_int HR.out.symm, al2⟩
set_option maxRecDepth 100000 in
set_option maxHeartbeats 2000000 in
theorem one2_any (r v x t u y : Int) (w : World) : Calls Try.prog 67 #[.agg #[.int .i64 2, .int .i64 y], .agg #[.int .i64 r, .int .i64 v, .int .i64 x, .int .i64 t], .int .i64 u] w fun e w' => e = .returned (.int .i64 (ckE r v t u 2 y)) ∧ Below w.heap.size w w' := by
  by_cases hc : v = y
  · have HR := Lib.hid (show ckE r v t u 2 y = 0 by rw [one_is]; simp [hc])
    have q1 : (v != y) = false := by simpa using hc
    have q2 : (v == y) = true := by simpa using hc
    have q3 : decide (v = y) = true := by simpa using hc
    clear hc
    go_enter Try.func67, Try.ntmps67
    go_wp2
    go_ret
    exact ⟨ret_int HR.out.symm, al2⟩
  · have HR := Lib.hid (show ckE r v t u 2 y = 18 by rw [one_is]; simp [hc])
    have q1 : (v != y) = true := by simpa using hc
    have q2 : (v == y) = false := by simpa using hc
    have q3 : decide (v = y) = false := by simpa using hc
    clear hc
    go_enter Try.func67, Try.ntmps67
    go_wp2
    go_ret
    exact ⟨ret_int HR.out.symm, al2⟩
set_option maxRecDepth 100000 in
set_option maxHeartbeats 2000000 in
theorem one3_any (r v x t u y : Int) (w : World) : Calls Try.prog 67 #[.agg #[.int .i64 3, .int .i64 y], .agg #[.int .i64 r, .int .i64 v, .int .i64 x, .int .i64 t], .int .i64 u] w fun e w' => e = .returned (.int .i64 (ckE r v t u 3 y)) ∧ Below w.heap.size w w' := by
  by_cases hc : t < y
  · have HR := Lib.hid (show ckE r v t u 3 y = 20 by rw [one_is]; simp [hc])
    have q3 : decide (t < y) = true := by simpa using hc
    clear hc
    go_enter Try.func67, Try.ntmps67
    go_wp2
    go_ret
    exact ⟨ret_int HR.out.symm, al2⟩
  · have HR := Lib.hid (show ckE r v t u 3 y = 0 by rw [one_is]; simp [hc])
    have q3 : decide (t < y) = false := by simpa using hc
    clear hc
    go_enter Try.func67, Try.ntmps67
    go_wp2
    go_ret
    exact ⟨ret_int HR.out.symm, al2⟩
set_option maxRecDepth 100000 in
set_option maxHeartbeats 2000000 in
theorem one4_any (r v x t u y : Int) (w : World) : Calls Try.prog 67 #[.agg #[.int .i64 4, .int .i64 y], .agg #[.int .i64 r, .int .i64 v, .int .i64 x, .int .i64 t], .int .i64 u] w fun e w' => e = .returned (.int .i64 (ckE r v t u 4 y)) ∧ Below w.heap.size w w' := by
  by_cases hc : y ≤ t
  · have HR := Lib.hid (show ckE r v t u 4 y = 20 by rw [one_is]; simp [hc])
    have q3 : decide (y ≤ t) = true := by simpa using hc
    clear hc
    go_enter Try.func67, Try.ntmps67
    go_wp2
    go_ret
    exact ⟨ret_int HR.out.symm, al2⟩
  · have HR := Lib.hid (show ckE r v t u 4 y = 0 by rw [one_is]; simp [hc])
    have q3 : decide (y ≤ t) = false := by simpa using hc
    clear hc
    go_enter Try.func67, Try.ntmps67
    go_wp2
    go_ret
    exact ⟨ret_int HR.out.symm, al2⟩
set_option maxRecDepth 100000 in
set_option maxHeartbeats 2000000 in
theorem one5_any (r v x t u y : Int) (w : World) : Calls Try.prog 67 #[.agg #[.int .i64 5, .int .i64 y], .agg #[.int .i64 r, .int .i64 v, .int .i64 x, .int .i64 t], .int .i64 u] w fun e w' => e = .returned (.int .i64 (ckE r v t u 5 y)) ∧ Below w.heap.size w w' := by
  by_cases hc : y ≤ u
  · have HR := Lib.hid (show ckE r v t u 5 y = 19 by rw [one_is]; simp [hc])
    have q3 : decide (y ≤ u) = true := by simpa using hc
    clear hc
    go_enter Try.func67, Try.ntmps67
    go_wp2
    go_ret
    exact ⟨ret_int HR.out.symm, al2⟩
  · have HR := Lib.hid (show ckE r v t u 5 y = 0 by rw [one_is]; simp [hc])
    have q3 : decide (y ≤ u) = false := by simpa using hc
    clear hc
    go_enter Try.func67, Try.ntmps67
    go_wp2
    go_ret
    exact ⟨ret_int HR.out.symm, al2⟩
theorem one_any (r v x t u k y : Int) (w : World) (hk : k = 1 ∨ k = 2 ∨ k = 3 ∨ k = 4 ∨ k = 5) : Calls Try.prog 67 #[.agg #[.int .i64 k, .int .i64 y], .agg #[.int .i64 r, .int .i64 v, .int .i64 x, .int .i64 t], .int .i64 u] w fun e w' => e = .returned (.int .i64 (ckE r v t u k y)) ∧ Below w.heap.size w w' := by
  rcases hk with rfl | rfl | rfl | rfl | rfl
  · exact one1_any r v x t u y w
  · exact one2_any r v x t u y w
  · exact one3_any r v x t u y w
  · exact one4_any r v x t u y w
  · exact one5_any r v x t u y w
end Go.Proofs.Ytpoldplmaomkaaa
