/- Drift: the small functions. -/
import Derived.Test.YtifnhfpdcbpjlaaBb
import Derived.Test.YtifnhfpdcbpjlaaDa
namespace Go.Proofs.Ytifnhfpdcbpjlaa
open Go.RowKit

def inB (n lo hi : Int) : Bool := decide (lo ≤ n ∧ n ≤ hi)
theorem dwithin_any (n lo hi : Int) (w : World) :
    Calls Try.prog 27 #[.int .i64 n, .int .i64 lo, .int .i64 hi] w fun e w' => e = .returned (.bool (inB n lo hi)) ∧ w = w' := by
  by_cases h1 : lo ≤ n
  · have h3 : decide (lo ≤ n) = true := by simpa using h1
    have h5 : inB n lo hi = decide (n ≤ hi) := by unfold inB; simp [h1]
    rw [h5]
    go_enter Try.func27, Try.ntmps27
    go_wp2
    go_ret
    exact ⟨rfl, rfl⟩
  · have h3 : decide (lo ≤ n) = false := by simpa using h1
    have h5 : inB n lo hi = false := by unfold inB; simp [h1]
    rw [h5]
    go_enter Try.func27, Try.ntmps27
    go_wp2
    go_ret
    exact ⟨rfl, rfl⟩
def rng (l h : Int) : Bool := decide (0 ≤ l ∧ l ≤ h ∧ h ≤ 2000000000)
theorem rng_cases (l h : Int) : (rng l h = false ∧ decide (0 ≤ l) = false) ∨ (rng l h = false ∧ decide (0 ≤ l) = true ∧ decide (l ≤ h) = false) ∨ (rng l h = decide (h ≤ 2000000000) ∧ decide (0 ≤ l) = true ∧ decide (l ≤ h) = true) := by
  unfold rng
  by_cases h1 : 0 ≤ l
  · by_cases h2 : l ≤ h
    · exact .inr (.inr ⟨by simp [h1, h2], by simpa using h1, by simpa using h2⟩)
    · exact .inr (.inl ⟨by simp [h2], by simpa using h1, by simpa using h2⟩)
  · exact .inl ⟨by simp [h1], by simpa using h1⟩
set_option maxHeartbeats 1000000 in
theorem isRange_any (l h : Int) (w : World) :
    Calls Try.prog 26 #[.agg #[.int .i64 l, .int .i64 h]] w fun e w' => e = .returned (.bool (rng l h)) ∧ w' = w.alloc (.cells #[.int .i64 l, .int .i64 h] 27) := by
  rcases rng_cases l h with ⟨hr, h1⟩ | ⟨hr, h1, h2⟩ | ⟨hr, h1, h2⟩ <;> rw [hr] <;> clear hr
  · go_enter Try.func26, Try.ntmps26
    go_wp2
    go_ret
    exact ⟨rfl, rfl⟩
  · go_enter Try.func26, Try.ntmps26
    go_wp2
    go_ret
    exact ⟨rfl, rfl⟩
  · go_enter Try.func26, Try.ntmps26
    go_wp2
    go_ret
    exact ⟨rfl, rfl⟩
end Go.Proofs.Ytifnhfpdcbpjlaa
