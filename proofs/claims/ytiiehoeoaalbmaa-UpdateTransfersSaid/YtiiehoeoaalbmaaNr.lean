/- Regions that draw their order and only make memory; slices of lists that may be cut. -/
import Derived.Test.YtiiehoeoaalbmaaIv
import Derived.Test.YtiiehoeoaalbmaaTg
import Derived.Test.YtiiehoeoaalbmaaGm
namespace Go.Proofs.Ytiiehoeoaalbmaa
open Go.RowKit Go.WideShapes Go.ChangeShapes Go.Joins Go.Deep

def upv (vs : Nat → Value) (i : Nat) (x : Value) : Nat → Value := fun k => cond (k == i) x (vs k)
theorem upv_same (vs : Nat → Value) (i : Nat) (x : Value) : upv vs i x i = x := by simp [upv]
theorem upv_ne (vs : Nat → Value) (i k : Nat) (x : Value) (h : k ≠ i) : upv vs i x k = vs k := by
  have : (k == i) = false := by simp [h]
  simp [upv, this]
/-- A region that only makes memory: what each operation's value is. -/
def RS (lit : (Nat → Value) → Act) (W : World) (G : Nat → Value → World → Prop) (bf : Nat → Bool) (ac : Act) (wv : World) : Prop :=
  ∃ vs, ac = lit vs ∧ Below W.heap.size W wv ∧ ∀ i, bf i = true → G i (vs i) wv
theorem RS.next {lit : (Nat → Value) → Act} {W : World} {G : Nat → Value → World → Prop} {bf : Nat → Bool} {wv : World} {vs : Nat → Value} (i : Nat) {x : Value} {w' : World} {ac' : Act} (hac : ac' = lit (upv vs i x))
    (k : ∀ i, bf i = true → G i (vs i) wv) (hb : Below W.heap.size W w') (hs : ∀ k v, G k v wv → G k v w') (hx : G i x w') : RS lit W G (up bf i) ac' w' := by
  refine ⟨upv vs i x, hac, hb, fun j hu => ?_⟩
  by_cases e : j = i
  · subst e; rw [upv_same]; exact hx
  · rw [up_ne _ _ _ e] at hu; rw [upv_ne _ _ _ _ e]; exact hs _ _ (k j hu)
/-- A slice is no longer than its capacity. -/
def CapOk (v : Value) : Prop := ∀ a n c, v = .slice a n c → n ≤ c
theorem rows_take {w : World} {b off cap n : Nat} {L : List (List Int)} (h : RowsAt w (.slice (some ⟨b, off, none⟩) L.length cap) L) (hn : n ≤ L.length) : RowsAt w (.slice (some ⟨b, off, none⟩) n cap) (L.take n) := by
  obtain ⟨a, c, hv, hm, hc⟩ := h
  cases hv
  refine ⟨_, _, by rw [List.length_take, Nat.min_eq_left hn], by rw [List.length_take]; omega, fun hl => ?_⟩
  obtain ⟨b1, o1, e, hx⟩ := hc (by intro e; rw [e] at hl; simp at hl)
  cases e
  exact ⟨_, _, rfl, fun i x hi => hx i x (by
    have hlt := (List.getElem?_eq_some_iff.1 hi).1
    rw [List.length_take] at hlt
    rwa [List.getElem?_take_of_lt (by omega)] at hi)⟩
theorem rows_drop {w : World} {b off cap n : Nat} {L : List (List Int)} (h : RowsAt w (.slice (some ⟨b, off, none⟩) L.length cap) L) (hn : n < L.length) : RowsAt w (.slice (some ⟨b, off + n, none⟩) (L.length - n) (cap - n)) (L.drop n) := by
  obtain ⟨a, c, hv, hm, hc⟩ := h
  cases hv
  refine ⟨_, _, by rw [List.length_drop], by rw [List.length_drop]; omega, fun hl => ?_⟩
  obtain ⟨b1, o1, e, hx⟩ := hc (by intro e; rw [e] at hn; simp at hn)
  cases e
  refine ⟨_, _, rfl, fun i x hi => ?_⟩
  rw [List.getElem?_drop] at hi
  rw [Nat.add_assoc]
  exact hx (n + i) x hi
variable {H : Type} {enc : TypeId × Value → H} {w : World} {base : Nat} {sp : Nat → Bool} {held : Bool} {r : Reach} {b0 : Nat} {v : Value} {d : DataW H} {p : List MemPlace}
theorem cap_rows (hv : Value.okWide Try.prog w r b0 25 v) (h0 : DataW.Trod enc Try.prog w base sp held 25 v d p) : CapOk v := by
  obtain ⟨a0, n0, c0, rfl⟩ := okWide_slice Try.underlying25 hv
  obtain ⟨k, h⟩ := h0
  rcases Go.Deep.open_slice (cs := [.slice a0 n0 c0]) Try.underlying25 h with ⟨h0, _⟩ | ⟨a, len, cap, m, k, D, Pl, hv, _, hl, hm, hmm, _, hx⟩
  · simp only [List.cons.injEq, and_true] at h0
    intro a n c e
    rw [h0] at e
    cases e
    exact Nat.le_refl _
  · simp only [List.cons.injEq, and_true] at hv
    intro a' n c e
    rw [hv] at e
    cases e
    exact hl
end Go.Proofs.Ytiiehoeoaalbmaa
