/- Reference: between; blocks below. -/
import Derived.Test.YtkamkkjijjkfdaaBb
namespace Go.Proofs.Ytkamkkjijjkfdaa
open Go.RowKit

set_option maxRecDepth 100000 in
set_option maxHeartbeats 8000000 in
theorem rbtw_q (n lo hi : Int) (b : Bool) (hb : (decide (lo ≤ n) && decide (n ≤ hi)) = b) (w : World) : Calls Try.prog 52 #[.int .i64 n, .int .i64 lo, .int .i64 hi] w fun e w' => e = .returned (.bool b) ∧ w = w' := by
  subst hb
  by_cases h1 : lo ≤ n
  · have e1 : decide (n ≥ lo) = true := by simp; omega
    have e1b : decide (lo ≤ n) = true := by simp; omega
    by_cases h2 : n ≤ hi
    · have e2 : decide (n ≤ hi) = true := by simp; omega
      clear h1 h2
      go_enter Try.func52, Try.ntmps52
      go_wp2
      go_ret
      exact ⟨by rw [e1b, e2]; rfl, rfl⟩
    · have e2 : decide (n ≤ hi) = false := by simp; omega
      clear h1 h2
      go_enter Try.func52, Try.ntmps52
      go_wp2
      go_ret
      exact ⟨by rw [e1b, e2]; rfl, rfl⟩
  · have e1 : decide (n ≥ lo) = false := by simp; omega
    have e1b : decide (lo ≤ n) = false := by simp; omega
    clear h1
    go_enter Try.func52, Try.ntmps52
    go_wp2
    go_ret
    exact ⟨by rw [e1b]; rfl, rfl⟩
theorem Cs.low {w w1 : World} {n N : Nat} {vs : Array Value} (h : Cs w n vs) (hb : Below N w w1) (hn : n < N) : Cs w1 n vs :=
  ⟨fun j hj => (hb.cell hn).trans (h.1 j hj), fun j hj => (hb.frozen hn).trans (h.2.1 j hj), Nat.lt_of_lt_of_le h.2.2 hb.size⟩
end Go.Proofs.Ytkamkkjijjkfdaa
