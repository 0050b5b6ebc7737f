/- Windows: lists of bools. -/
import Derived.Test.YtigpopemllamdaaBb

namespace Go.Proofs.Ytigpopemllamdaa
open Go.RowKit

def BosAt (w : World) (v : Value) (l : List Bool) : Prop :=
  ∃ a cap, v = .slice a l.length cap ∧ l.length ≤ maxLen ∧ (l ≠ [] → ∃ b off, a = some ⟨b, off, none⟩ ∧ ∀ (i : Nat) (x : Bool), l[i]? = some x → w.cell? ⟨b, off + i, none⟩ = some (.bool x))
theorem BosAt.step {w w1 : World} {v : Value} {l : List Bool} (h : BosAt w v l) (hb : Below w.heap.size w w1) : BosAt w1 v l := by
  obtain ⟨a, cap, hv, hm, hc⟩ := h
  refine ⟨a, cap, hv, hm, fun hl => ?_⟩
  obtain ⟨b, off, ha, hx⟩ := hc hl
  exact ⟨b, off, ha, fun i x h => keep1 hb (hx i x h)⟩
theorem bos_nil (w : World) : BosAt w (.slice none 0 0) [] := ⟨none, 0, rfl, by simp, fun h => absurd rfl h⟩
theorem bo_get {l : List Bool} {k : Nat} (h : k < l.length) : l[k]? = some (l.getD k false) := by simp [h]
theorem Cs.of_heap {w : World} {g : Nat} {cs : Array Value} {t : TypeId} (h : w.heap[g]? = some (.cells cs t (0, 0))) : Cs w g cs :=
  ⟨fun j _ => by simp [World.cell?, h], fun j _ => by simp [World.frozen?, h], (Array.getElem?_eq_some_iff.1 h).1⟩
theorem bos_lit (W : World) (l : List Bool) (cs : Array Value) (t : TypeId) (hc : cs.toList = l.map .bool) (hm : l.length ≤ 1000) (n : Nat) (hn : n = l.length) (b : Nat) (hb : b = W.heap.size) : BosAt (W.alloc (.cells cs t)) (.slice (some ⟨b, 0, none⟩) n n) l := by
  subst hn hb
  refine ⟨_, _, rfl, by unfold maxLen; omega, fun _ => ⟨W.heap.size, 0, rfl, fun i x hi => ?_⟩⟩
  rw [cell_new' W cs t _ (by rfl), ← Array.getElem?_toList, hc, List.getElem?_map, Nat.zero_add]
  simp [hi]
end Go.Proofs.Ytigpopemllamdaa
