/- Updates: regions with one pivot. -/
import Derived.Test.YtiiehoeoaalbmaaNr
namespace Go.Proofs.Ytiiehoeoaalbmaa
open Go.RowKit

/-- A region with one pivot: which facts hold until it, and behind it; 'ed p q': q comes ahead of p. -/
def NS (lit : (Nat → Value) → Act) (s : Nat) (ed : Nat → Nat → Bool) (G : Bool → Nat → Value → World → Prop) (B : Bool → World → Prop) (bf : Nat → Bool) (ac : Act) (wv : World) : Prop :=
  ∃ vs, ac = lit vs ∧ (∀ p q, ed p q = true → bf p = true → bf q = true) ∧ B (bf s) wv ∧ ∀ i, bf i = true → G (bf s) i (vs i) wv
section
variable {lit : (Nat → Value) → Act} {s : Nat} {ed : Nat → Nat → Bool} {G : Bool → Nat → Value → World → Prop} {B : Bool → World → Prop}
theorem up_mono {bf : Nat → Bool} (i : Nat) {q : Nat} (h : bf q = true) : up bf i q = true := by unfold up; rw [h]; simp
theorem up_closed {bf : Nat → Bool} {i : Nat} (k : ∀ p q, ed p q = true → bf p = true → bf q = true) (ha : ∀ q, ed i q = true → bf q = true) : ∀ p q, ed p q = true → up bf i p = true → up bf i q = true := by
  intro p q he hp
  by_cases e : p = i
  · subst e; exact up_mono _ (ha q he)
  · rw [up_ne _ _ _ e] at hp; exact up_mono _ (k p q he hp)
theorem NS.start {ac : Act} {wv : World} (vs : Nat → Value) (hac : ac = lit vs) (hb : B false wv) : NS lit s ed G B (fun _ => false) ac wv :=
  ⟨vs, hac, fun _ _ _ h => (by cases h), hb, fun i h => (by cases h)⟩
theorem NS.next {bf : Nat → Bool} {wv : World} {vs : Nat → Value} (i : Nat) (hi : s ≠ i) (ha : ∀ q, ed i q = true → bf q = true) {x : Value} {w' : World} {ac' : Act} (hac : ac' = lit (upv vs i x))
    (k : (∀ p q, ed p q = true → bf p = true → bf q = true) ∧ ∀ i, bf i = true → G (bf s) i (vs i) wv) (hb : B (bf s) w') (hs : ∀ k, bf k = true → G (bf s) k (vs k) wv → G (bf s) k (vs k) w') (hx : G (bf s) i x w') : NS lit s ed G B (up bf i) ac' w' := by
  refine ⟨upv vs i x, hac, up_closed k.1 ha, by rw [up_ne _ _ _ hi]; exact hb, fun j hu => ?_⟩
  rw [up_ne _ _ _ hi]
  by_cases e : j = i
  · subst e; rw [upv_same]; exact hx
  · rw [up_ne _ _ _ e] at hu; rw [upv_ne _ _ _ _ e]; exact hs _ hu (k.2 j hu)
theorem NS.put {bf : Nat → Bool} {vs : Nat → Value} {w' : World} {ac' : Act} (hac : ac' = lit vs) (hn : (∀ p q, ed p q = true → bf p = true → bf q = true) ∧ ∀ q, ed s q = true → bf q = true) (hb : B true w') (hs : ∀ k, k ≠ s → bf k = true → G true k (vs k) w') (hx : ∀ v, G true s v w') : NS lit s ed G B (up bf s) ac' w' := by
  refine ⟨vs, hac, up_closed hn.1 hn.2, by rw [up_same]; exact hb, fun j hu => ?_⟩
  rw [up_same]
  by_cases e : j = s
  · subst e; exact hx _
  · rw [up_ne _ _ _ e] at hu; exact hs j e hu
theorem NS.piv {bf : Nat → Bool} {vs : Nat → Value} {x : Value} {w' : World} {ac' : Act} (hac : ac' = lit (upv vs s x)) (hn : (∀ p q, ed p q = true → bf p = true → bf q = true) ∧ ∀ q, ed s q = true → bf q = true) (hb : B true w') (hs : ∀ k, k ≠ s → bf k = true → G true k (vs k) w') (hx : G true s x w') : NS lit s ed G B (up bf s) ac' w' := by
  refine ⟨upv vs s x, hac, up_closed hn.1 hn.2, by rw [up_same]; exact hb, fun j hu => ?_⟩
  rw [up_same]
  by_cases e : j = s
  · subst e; rw [upv_same]; exact hx
  · rw [up_ne _ _ _ e] at hu; rw [upv_ne _ _ _ _ e]; exact hs j e hu
end
end Go.Proofs.Ytiiehoeoaalbmaa
