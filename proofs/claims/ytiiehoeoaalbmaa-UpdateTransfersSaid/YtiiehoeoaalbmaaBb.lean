/- Stores into a block. -/
import Derived.Test.YtiiehoeoaalbmaaBa
namespace Go.Proofs.Ytiiehoeoaalbmaa
open Go.RowKit

theorem Cs.other {w : World} {n b : Nat} {vs : Array Value} (h : Cs w n vs) (hne : n ≠ b) (j : Nat) (v : Value) : Cs (w.setCell ⟨b, j, none⟩ v) n vs := by
  have hb := Below.heap_setCell w ⟨b, j, none⟩ v n hne
  exact ⟨fun i hi => (World.cell?_of_block (a := ⟨n, i, none⟩) hb).trans (h.1 i hi), fun i hi => (World.frozen?_of_block (a := ⟨n, i, none⟩) hb).trans (h.2.1 i hi), by simpa using h.2.2⟩
theorem Cs.set {w : World} {b : Nat} {vs : Array Value} (h : Cs w b vs) (j : Nat) (hj : j < vs.size) (v : Value) {vs' : Array Value} (hvs : vs.setIfInBounds j v = vs') : Cs (w.setCell ⟨b, j, none⟩ v) b vs' := by
  subst hvs
  have hsz : (vs.setIfInBounds j v).size = vs.size := by simp
  refine ⟨fun i hi => ?_, fun i hi => ?_, by simpa using h.2.2⟩
  · rw [hsz] at hi
    by_cases e : j = i
    · subst e
      rw [World.cell?_setCell_same _ _ _ (u := vs[j]) ((h.1 j hj).trans (Array.getElem?_eq_getElem hj))]
      simp [hj]
    · rw [World.cell?_setCell_other _ _ _ _ (by intro h2; injection h2 with _ h3; exact e h3), h.1 i hi]
      simp [e]
  · rw [hsz] at hi
    rw [World.frozen?_setCell]; exact h.2.1 i hi
end Go.Proofs.Ytiiehoeoaalbmaa
