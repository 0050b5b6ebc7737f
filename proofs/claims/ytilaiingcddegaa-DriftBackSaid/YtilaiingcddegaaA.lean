/- The contracts of 'within', 'between', 'isRange', 'Valid', 'Can'. -/
import Derived.Test.YtilaiingcddegaaRows
import Derived.Test.YtilaiingcddegaaM
import Derived.ProofKit
import Derived.OpenShut
import Derived.WalkKit
import Derived.WalkSpells
import Derived.WalkLawsBesides
import Derived.Lib.Hide
import Derived.Deep.QuietTactic
import Derived.BigQuiet
import Derived.Outline
import Derived.ChangeAlike
import Derived.RegionTactic
import Derived.BigRegion
import Derived.IntWalk
namespace Go.Proofs.Ytilaiingcddegaa
open Go.RowKit

theorem ret_int {k : IntKind} {a b : Int} (h : a = b) : Ending.returned (.int k a) = .returned (.int k b) := by rw [h]
theorem ret_bool {a b : Bool} (h : a = b) : Ending.returned (.bool a) = .returned (.bool b) := by rw [h]
theorem keep1 {w w1 : World} {p : Addr} {v : Value} (hb : Below w.heap.size w w1) (h : w.cell? p = some v) : w1.cell? p = some v := (hb.cell (World.block_lt_of_cell? _ _ h)).trans h
theorem keep2 {w w1 w2 : World} (hb : Below w1.heap.size w1 w2) (h : Below w.heap.size w w1) : Below w.heap.size w w2 := h.trans (hb.mono h.size)
theorem bcell {W w1 : World} (hb : Below W.heap.size W w1) : (∀ b o, b < W.heap.size → w1.cell? ⟨b, o, none⟩ = W.cell? ⟨b, o, none⟩) ∧ (∀ b o, b < W.heap.size → w1.frozen? ⟨b, o, none⟩ = W.frozen? ⟨b, o, none⟩) :=
  ⟨fun b o h => hb.cell (p := ⟨b, o, none⟩) h, fun b o h => hb.frozen (p := ⟨b, o, none⟩) h⟩
theorem below_drewN' (B : Nat) (W : World) (n : Nat) : Below B W (W.drewN n) := ⟨rfl, rfl, rfl, Nat.le_refl _, fun _ _ => rfl⟩
theorem below_drew (B : Nat) (W : World) : Below B W W.drew := ⟨rfl, rfl, rfl, Nat.le_refl _, fun _ _ => rfl⟩
theorem al (W : World) (o : Obj) : Below W.heap.size W (W.alloc o) := (Below.refl _ _).alloc (Nat.le_refl _) o

def inB (n lo hi : Int) : Bool := decide (lo ≤ n ∧ n ≤ hi)
theorem within_any (n lo hi : Int) (w : World) :
    Calls Try.prog 28 #[.int .i64 n, .int .i64 lo, .int .i64 hi] w fun e w' => e = .returned (.bool (inB n lo hi)) ∧ w = w' := by
  by_cases h1 : lo ≤ n
  · have h3 : decide (lo ≤ n) = true := by simpa using h1
    have h5 : inB n lo hi = decide (n ≤ hi) := by unfold inB; simp [h1]
    rw [h5]
    go_enter Try.func28, Try.ntmps28
    go_wp2
    go_ret
    exact ⟨rfl, rfl⟩
  · have h3 : decide (lo ≤ n) = false := by simpa using h1
    have h5 : inB n lo hi = false := by unfold inB; simp [h1]
    rw [h5]
    go_enter Try.func28, Try.ntmps28
    go_wp2
    go_ret
    exact ⟨rfl, rfl⟩
theorem between_any (n lo hi : Int) (w : World) :
    Calls Try.prog 25 #[.int .i64 n, .int .i64 lo, .int .i64 hi] w fun e w' => e = .returned (.bool (inB n lo hi)) ∧ w = w' := by
  by_cases h1 : lo ≤ n
  · have h3 : decide (lo ≤ n) = true := by simpa using h1
    have h5 : inB n lo hi = decide (n ≤ hi) := by unfold inB; simp [h1]
    rw [h5]
    go_enter Try.func25, Try.ntmps25
    go_wp2
    go_ret
    exact ⟨rfl, rfl⟩
  · have h3 : decide (lo ≤ n) = false := by simpa using h1
    have h5 : inB n lo hi = false := by unfold inB; simp [h1]
    rw [h5]
    go_enter Try.func25, Try.ntmps25
    go_wp2
    go_ret
    exact ⟨rfl, rfl⟩
def rng (l h : Int) : Bool := decide (0 ≤ l ∧ l ≤ h ∧ h ≤ 2000000000)
theorem rng_cases (l h : Int) : (rng l h = false ∧ decide (0 ≤ l) = false) ∨ (rng l h = false ∧ decide (0 ≤ l) = true ∧ decide (l ≤ h) = false) ∨ (rng l h = decide (h ≤ 2000000000) ∧ decide (0 ≤ l) = true ∧ decide (l ≤ h) = true) := by
  unfold rng
  by_cases h1 : 0 ≤ l
  · by_cases h2 : l ≤ h
    · exact .inr (.inr ⟨by simp [h1, h2], by simpa using h1, by simpa using h2⟩)
    · exact .inr (.inl ⟨by simp [h2], by simpa using h1, by simpa using h2⟩)
  · exact .inl ⟨by simp [h1], by simpa using h1⟩
set_option maxHeartbeats 1000000 in
theorem isRange_any (l h : Int) (w : World) :
    Calls Try.prog 26 #[.agg #[.int .i64 l, .int .i64 h]] w fun e w' => e = .returned (.bool (rng l h)) ∧ w' = w.alloc (.cells #[.int .i64 l, .int .i64 h] 23) := by
  rcases rng_cases l h with ⟨hr, h1⟩ | ⟨hr, h1, h2⟩ | ⟨hr, h1, h2⟩ <;> rw [hr] <;> clear hr
  · go_enter Try.func26, Try.ntmps26
    go_wp2
    go_ret
    exact ⟨rfl, rfl⟩
  · go_enter Try.func26, Try.ntmps26
    go_wp2
    go_ret
    exact ⟨rfl, rfl⟩
  · go_enter Try.func26, Try.ntmps26
    go_wp2
    go_ret
    exact ⟨rfl, rfl⟩
set_option maxHeartbeats 1000000 in
theorem valid_any (l h : Int) (w : World) :
    Calls Try.prog 22 #[.agg #[.int .i64 l, .int .i64 h]] w fun e w' => e = .returned (.bool (rng l h)) ∧ w' = w.alloc (.cells #[.int .i64 l, .int .i64 h] 23) := by
  rcases rng_cases l h with ⟨hr, h1⟩ | ⟨hr, h1, h2⟩ | ⟨hr, h1, h2⟩ <;> rw [hr] <;> clear hr
  · go_enter Try.func22, Try.ntmps22
    go_wp2
    go_ret
    exact ⟨rfl, rfl⟩
  · go_enter Try.func22, Try.ntmps22
    go_wp2
    go_ret
    exact ⟨rfl, rfl⟩
  · go_enter Try.func22, Try.ntmps22
    go_wp2
    go_ret
    exact ⟨rfl, rfl⟩
end Go.Proofs.Ytilaiingcddegaa
