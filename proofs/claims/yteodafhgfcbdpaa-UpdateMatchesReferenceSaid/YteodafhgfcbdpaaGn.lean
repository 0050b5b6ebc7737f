import Derived.Test.YteodafhgfcbdpaaUn
namespace Go.Proofs.Yteodafhgfcbdpaa
open Go.RowKit Go.WideShapes Go.ChangeShapes Go.Joins Go.Deep

variable {H : Type} {enc : TypeId × Value → H} {w : World} {base : Nat} {sp : Nat → Bool} {held : Bool} {r : Reach} {b0 : Nat} {v : Value} {d : DataW H} {p : List MemPlace}
theorem cap_ints (hv : Value.okWide Try.prog w r b0 22 v) (h0 : DataW.Trod enc Try.prog w base sp held 22 v d p) : ∀ a n c, v = .slice a n c → n ≤ c := by
  obtain ⟨a0, n0, c0, rfl⟩ := okWide_slice Try.underlying22 hv
  obtain ⟨k, h⟩ := h0
  rcases Go.Deep.open_slice (cs := [.slice a0 n0 c0]) Try.underlying22 h with ⟨h0, _⟩ | ⟨a, len, cap, m, k, D, Pl, hv, _, hl, hm, hmm, _, hx⟩
  · simp only [List.cons.injEq, and_true] at h0
    intro a n c e
    rw [h0] at e
    cases e
    exact Nat.le_refl _
  · simp only [List.cons.injEq, and_true] at hv
    intro a' n c e
    rw [hv] at e
    cases e
    exact hl
end Go.Proofs.Yteodafhgfcbdpaa
