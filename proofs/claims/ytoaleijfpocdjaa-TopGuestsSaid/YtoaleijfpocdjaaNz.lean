/- Capabilities: worlds, rows and blocks, for the reference's chain of tags. -/
import Derived.Test.YtoaleijfpocdjaaKl

namespace Go.Proofs.Ytoaleijfpocdjaa
open Go.RowKit

theorem BoxN.cs {w : World} {b : Nat} {vs : Array Value} {t : TypeId} (h : BoxN w b vs t) : Cs w b vs :=
  ⟨fun j _ => h.cell j, fun j _ => by simp [World.frozen?, show w.heap[b]? = _ from h], h.lt⟩
/-- A region that only makes memory: what each operation's value is. -/
def RS (lit : (Nat → Value) → Act) (W : World) (G : Nat → Value → World → Prop) (bf : Nat → Bool) (ac : Act) (wv : World) : Prop :=
  ∃ vs, ac = lit vs ∧ Below W.heap.size W wv ∧ ∀ i, bf i = true → G i (vs i) wv
theorem RS.next {lit : (Nat → Value) → Act} {W : World} {G : Nat → Value → World → Prop} {bf : Nat → Bool} {wv : World} {vs : Nat → Value} (i : Nat) {x : Value} {w' : World} {ac' : Act} (hac : ac' = lit (upv vs i x))
    (k : ∀ i, bf i = true → G i (vs i) wv) (hb : Below W.heap.size W w') (hs : ∀ k v, G k v wv → G k v w') (hx : G i x w') : RS lit W G (up bf i) ac' w' := by
  refine ⟨upv vs i x, hac, hb, fun j hu => ?_⟩
  by_cases e : j = i
  · subst e; rw [upv_same]; exact hx
  · rw [up_ne _ _ _ e] at hu; rw [upv_ne _ _ _ _ e]; exact hs _ _ (k j hu)
/-- A row of another kind's block stays. -/
theorem box_grown {w w' : World} {g : Nat} {cs : Array Value} {t : TypeId} {row : Option Nat} (h : BoxN w g cs t) (hg : w.grownBy w' row) (hne : row ≠ some g) : BoxN w' g cs t :=
  (hg.block g h.lt (fun e => hne e.symm)).trans h
theorem row_type {w : World} {base e s n g : Nat} {v : Value} {xs : List Value} {cs : Array Value} {t : TypeId} (h : w.ownsRow base e s v n xs) (hb : BoxN w g cs t) (hne : t ≠ e) : v.ownBlock ≠ some g := by
  rcases h.2 with ⟨rfl, h0⟩ | ⟨g2, cap, cur, rfl, h2, h3, -⟩
  · intro e; cases e
  · intro e
    have e : g2 = g := by simpa [Value.ownBlock] using e
    rw [← e] at hb
    have h4 : w.heap[g2]? = some (.cells cs t (0, 0)) := hb
    rw [h3] at h4
    cases h4
    exact hne rfl
theorem ints_box {w : World} {g : Nat} {k v : Int} (h : BoxN w g #[.int .i64 k, .int .i64 v] 3) : IntsAt w (.slice (some ⟨g, 0, none⟩) 2 2) [k, v] := by
  refine ⟨_, _, rfl, by unfold maxLen; simp, fun _ => ⟨g, 0, rfl, fun i x hi => ?_⟩⟩
  rw [Nat.zero_add, h.cell]
  rcases i with _ | _ | i
  · cases hi; rfl
  · cases hi; rfl
  · cases hi
end Go.Proofs.Ytoaleijfpocdjaa
