/- How a slice of ints opens, with its capacity. -/
import Derived.Test.YtilaiingcddegaaR
import Derived.Test.YtilaiingcddegaaQ
namespace Go.Proofs.Ytilaiingcddegaa
open Go.RowKit Go.WideShapes Go.ChangeShapes Go.Joins Go.Deep
section
variable {H : Type} {enc : TypeId × Value → H} {w : World} {base : Nat} {sp : Nat → Bool} {held : Bool} {r : Reach} {b0 : Nat} {v : Value} {d : DataW H} {p : List MemPlace}
theorem arg_intsC (hv : Value.okWide Try.prog w r b0 24 v) (h0 : DataW.Trod enc Try.prog w base sp held 24 v d p) : ∃ l, IntsAt w v l ∧ CapOk v := by
  obtain ⟨a, n, c, rfl⟩ := okWide_slice Try.underlying24 hv
  obtain ⟨k, h⟩ := h0
  rcases open_ints Try.underlying24 Try.underlying3 cells3 (show DataW.trod enc Try.prog w base sp held k 24 [.slice a n c] = some (d, p) from h) with ⟨e, _⟩ | ⟨ad, len, cap, zs, e, _, hl, hm, hz, _, hc, _⟩
  · simp only [List.cons.injEq, and_true] at e
    exact ⟨[], by rw [e]; exact ints_nil _, ⟨_, _, _, e, Nat.le_refl _, fun _ => rfl⟩⟩
  · simp only [List.cons.injEq, and_true] at e
    have hle : len ≤ zs.length := by rw [hz]; split <;> omega
    refine ⟨zs.take len, ⟨some ad, cap, by rw [e]; simp; omega, by simp; omega, fun hne => ?_⟩, ⟨_, _, _, e, hl, fun h => by cases h⟩⟩
    have hpos : 0 < len := by
      apply Classical.byContradiction; intro h0
      exact hne (by rw [show len = 0 by omega]; rfl)
    obtain ⟨b, off, rfl⟩ := plain_of (hc 0 (by omega))
    refine ⟨b, off, rfl, fun i x hi => ?_⟩
    rw [List.getElem?_take] at hi
    split at hi
    · rename_i hlt
      have := hc i (by omega)
      rw [add_plain] at this
      rw [this]
      simp [List.getD_eq_getElem?_getD, hi]
    · cases hi
end
end Go.Proofs.Ytilaiingcddegaa
