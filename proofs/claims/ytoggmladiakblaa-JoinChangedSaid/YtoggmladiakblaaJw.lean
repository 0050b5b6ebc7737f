/- The walk of JoinChanged: what the region that builds both lists keeps. -/
import Derived.Test.YtoggmladiakblaaJv4
import Derived.Test.YtoggmladiakblaaJv1
import Derived.Test.YtoggmladiakblaaJv2
import Derived.Test.YtoggmladiakblaaJv3
import Derived.Test.YtoggmladiakblaaIv
namespace Go.Proofs.Ytoggmladiakblaa
open Go.RowKit

/-- What comes up in the region that builds both lists. -/
def Gw (code a p q pub K : Int) (n2 : Nat) : Nat → Value → World → Prop
  | 0, v, _ => v = .int .i64 code
  | 1, v, _ => v = .agg (jc code a p q K false true)
  | 2, v, _ => v = .pointer (some ⟨n2, 1, none⟩)
  | 3, v, _ => v = .int .i64 q
  | 4, v, w => IntsAt w v (nums a p q false 1)
  | 5, v, w => IntsAt w v (code :: 4 :: nums a p q false 1)
  | 6, v, _ => v = .int .i64 code
  | 7, v, _ => v = .agg (jc code a p q K false true)
  | 8, v, _ => v = .int .i64 pub
  | 9, v, w => IntsAt w v (nums a p pub false 1)
  | 10, v, w => IntsAt w v (code :: 4 :: nums a p pub false 1)
  | 11, v, w => ∃ B v1 v2, v = .slice (some ⟨B, 0, none⟩) 2 2 ∧ w.cell? ⟨B, 0, none⟩ = some v1 ∧ w.cell? ⟨B, 1, none⟩ = some v2 ∧ IntsAt w v1 (code :: 4 :: nums a p q false 1) ∧ IntsAt w v2 (code :: 4 :: nums a p pub false 1)
  | 12, v, w => ∃ B v1 v2, v = .slice (some ⟨B, 0, none⟩) 2 2 ∧ w.cell? ⟨B, 0, none⟩ = some v1 ∧ w.cell? ⟨B, 1, none⟩ = some v2 ∧ IntsAt w v1 (code :: 4 :: nums a p q false 1) ∧ IntsAt w v2 (code :: 4 :: nums a p pub false 1)
  | _, _, _ => True
theorem pairAt_step {w w1 : World} {v : Value} {l1 l2 : List Int} (hb : Below w.heap.size w w1) (h : ∃ B v1 v2, v = .slice (some ⟨B, 0, none⟩) 2 2 ∧ w.cell? ⟨B, 0, none⟩ = some v1 ∧ w.cell? ⟨B, 1, none⟩ = some v2 ∧ IntsAt w v1 l1 ∧ IntsAt w v2 l2) : ∃ B v1 v2, v = .slice (some ⟨B, 0, none⟩) 2 2 ∧ w1.cell? ⟨B, 0, none⟩ = some v1 ∧ w1.cell? ⟨B, 1, none⟩ = some v2 ∧ IntsAt w1 v1 l1 ∧ IntsAt w1 v2 l2 := by
  obtain ⟨B, v1, v2, e, c0, c1, i1, i2⟩ := h
  exact ⟨B, v1, v2, e, keep1 hb c0, keep1 hb c1, i1.step hb, i2.step hb⟩
theorem Gw.step {code a p q pub K : Int} {n2 : Nat} {w w1 : World} (hb : Below w.heap.size w w1) : ∀ {k : Nat} {v : Value}, Gw code a p q pub K n2 k v w → Gw code a p q pub K n2 k v w1
  | 0, _, h => h
  | 1, _, h => h
  | 2, _, h => h
  | 3, _, h => h
  | 4, _, h => IntsAt.step h hb
  | 5, _, h => IntsAt.step h hb
  | 6, _, h => h
  | 7, _, h => h
  | 8, _, h => h
  | 9, _, h => IntsAt.step h hb
  | 10, _, h => IntsAt.step h hb
  | 11, _, h => pairAt_step hb h
  | 12, _, h => pairAt_step hb h
  | _ + 13, _, _ => trivial
/-- One value set. -/
def upv (vs : Nat → Value) (i : Nat) (x : Value) : Nat → Value := fun k => cond (k == i) x (vs k)
theorem up_g {G : Nat → Value → World → Prop} {vs : Nat → Value} {bf : Nat → Bool} {wv w' : World} (i : Nat) {x : Value} (h : ∀ k, bf k = true → G k (vs k) wv) (hs : ∀ {k : Nat} {v : Value}, G k v wv → G k v w') (hx : G i x w') : ∀ k, up bf i k = true → G k (upv vs i x k) w' := fun k hk => by
  unfold upv
  by_cases e : k = i
  · subst e; simp only [beq_self_eq_true, cond_true]; exact hx
  · have : (k == i) = false := by simpa using e
    rw [this]
    exact hs (h k (by unfold up at hk; rwa [if_neg e] at hk))
theorem nums_len (a b c : Int) (h : Bool) (d : Int) : (nums a b c h d).length = 4 := rfl
theorem two_alloc (W : World) (v1 v2 : Value) (l1 l2 : List Int) (t : TypeId) (h1 : IntsAt W v1 l1) (h2 : IntsAt W v2 l2) : ∃ B x1 x2, Value.slice (some ⟨W.heap.size, 0, none⟩) 2 2 = .slice (some ⟨B, 0, none⟩) 2 2 ∧ (W.alloc (.cells #[v1, v2] t)).cell? ⟨B, 0, none⟩ = some x1 ∧ (W.alloc (.cells #[v1, v2] t)).cell? ⟨B, 1, none⟩ = some x2 ∧ IntsAt (W.alloc (.cells #[v1, v2] t)) x1 l1 ∧ IntsAt (W.alloc (.cells #[v1, v2] t)) x2 l2 :=
  have C := Cs.new W W.heap.size #[v1, v2] t rfl
  ⟨W.heap.size, v1, v2, rfl, C.c 0 rfl, C.c 1 rfl, h1.step (al W _), h2.step (al W _)⟩
end Go.Proofs.Ytoggmladiakblaa
