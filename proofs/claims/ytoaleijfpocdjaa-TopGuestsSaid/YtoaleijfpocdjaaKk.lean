/- Capabilities: 'Narrow' in one word; the small functions of the reference. -/
import Derived.Test.YtoaleijfpocdjaaKj
import Derived.Test.YtoaleijfpocdjaaKd
namespace Go.Proofs.Ytoaleijfpocdjaa
open Go.RowKit

/-- The error of 'Narrow'. -/
def nrE (id tag : Int) (l : List Cv) (k v : Int) : Int := if capB id tag l && cvB k v then (if l.length = 12 then 30 else 0) else 1
/-- No capability. -/
abbrev zCap : Value := .agg #[.int .i64 0, .slice none 0 0, .int .i64 0]
theorem narrow_any (id tag k v : Int) (sl : Value) (l : List Cv) (w : World) (h : CvsAt w sl l) : Calls Try.prog 14 #[.agg #[.int .i64 id, sl, .int .i64 tag], .agg #[.int .i64 k, .int .i64 v]] w fun e w' =>
    ∃ vr, e = .returned (.tuple #[vr, .int .i64 (nrE id tag l k v)]) ∧ Below w.heap.size w w' ∧ (nrE id tag l k v = 0 → ∃ u, vr = .agg #[.int .i64 id, u, .int .i64 (tgN tag ⟨k, v⟩)] ∧ CvsAt w' u (l ++ [⟨k, v⟩])) ∧ (nrE id tag l k v ≠ 0 → vr = zCap) := by
  cases h1 : capB id tag l
  · have : nrE id tag l k v = 1 := by unfold nrE; simp [h1]
    rw [this]
    exact (narrow_bad1 id tag k v sl l w h h1).mono fun e w' q => ⟨zCap, q.1, q.2, fun h => by omega, fun _ => rfl⟩
  · cases h2 : cvB k v
    · have : nrE id tag l k v = 1 := by unfold nrE; simp [h2]
      rw [this]
      exact (narrow_bad2 id tag k v sl l w h h1 h2).mono fun e w' q => ⟨zCap, q.1, q.2, fun h => by omega, fun _ => rfl⟩
    · by_cases h3 : l.length = 12
      · have : nrE id tag l k v = 30 := by unfold nrE; simp [h1, h2, h3]
        rw [this]
        exact (narrow_full id tag k v sl l w h h1 h2 h3).mono fun e w' q => ⟨zCap, q.1, q.2, fun h => by omega, fun _ => rfl⟩
      · have : nrE id tag l k v = 0 := by unfold nrE; simp [h1, h2, h3]
        rw [this]
        refine (narrow_ok id tag k v sl l w h h1 h2 (by have := cap_len h1; omega)).mono fun e w' q => ?_
        obtain ⟨u, q1, q2, q3⟩ := q
        exact ⟨_, q1, q3, fun _ => ⟨u, rfl, q2⟩, fun h => absurd rfl h⟩
end Go.Proofs.Ytoaleijfpocdjaa
