/- Sets of tags: how many the laws take; the examples. -/
import Derived.Test.YtoaleijfpocdjaaRl
namespace Go.Proofs.Ytoaleijfpocdjaa
open Go.RowKit

/-- A set of a size that the laws take. -/
def fwB (n : Nat) : Bool := !(decide (50 < n) && decide (n ≤ 390)) && decide (n ≤ 420)
/-- Slices behind a slice. -/
def SlsAt (w : World) (v : Value) (L : List (Option Addr × Nat × Nat)) : Prop := ∃ b c, v = .slice (some ⟨b, 0, none⟩) L.length c ∧ ∀ (i : Nat) (t : Option Addr × Nat × Nat), L[i]? = some t → w.cell? ⟨b, i, none⟩ = some (.slice t.1 t.2.1 t.2.2)
def zT : Option Addr × Nat × Nat := (none, 0, 0)
theorem fw_hit {L : List (Option Addr × Nat × Nat)} {k : Nat} (h : k < L.length) (hb : fwB (L.getD k zT).2.1 = false) : L.all (fun t => fwB t.2.1) = false := by
  rw [← Bool.not_eq_true, List.all_eq_true]
  intro hh
  have := hh (L[k]) (List.getElem_mem h)
  rw [show L.getD k zT = L[k] by simp [h]] at hb
  rw [hb] at this; cases this
theorem fw_all {L : List (Option Addr × Nat × Nat)} (h : ∀ j, j < L.length → fwB (L.getD j zT).2.1 = true) : L.all (fun t => fwB t.2.1) = true := by
  rw [List.all_eq_true]
  intro x hx
  obtain ⟨j, hj, rfl⟩ := List.mem_iff_getElem.1 hx
  have := h j hj
  rwa [show L.getD j zT = L[j] by simp [hj]] at this
theorem fw_get {L : List (Option Addr × Nat × Nat)} {k : Nat} (h : k < L.length) : L[k]? = some (L.getD k zT) := by simp [h]
theorem fw_true {n : Nat} (h : fwB n = true) : (n ≤ 50 ∨ (390 < n ∧ n ≤ 420)) := by
  unfold fwB at h; simp at h; omega
theorem fw_false {n : Nat} (h : fwB n = false) : ((50 < n ∧ n ≤ 390) ∨ 420 < n) := by
  unfold fwB at h
  rcases Nat.lt_or_ge 420 n with h1 | h1
  · exact .inr h1
  · simp [h1] at h; exact .inl h
end Go.Proofs.Ytoaleijfpocdjaa
