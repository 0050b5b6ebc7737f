/- Delivery: the small functions, 'find', 'areValues', 'isOrder'. -/
import Derived.Test.YtigpopemllamdaaVb
namespace Go.Proofs.Ytigpopemllamdaa
open Go.RowKit

def inr (n lo hi : Int) : Bool := decide (lo ≤ n) && decide (n ≤ hi)
theorem inr_iff {n lo hi : Int} : inr n lo hi = true ↔ lo ≤ n ∧ n ≤ hi := by unfold inr; simp
theorem inr_no {n lo hi : Int} : inr n lo hi = false ↔ ¬ (lo ≤ n ∧ n ≤ hi) := by rw [← Bool.not_eq_true, inr_iff]
def ba (x : Int) : Bool := !inr x 0 15
theorem ba_hit {l : List Int} {k : Nat} (h : k < l.length) (hb : ba (l.getD k 0) = true) : l.any ba = true := by
  rw [List.any_eq_true]
  exact ⟨l.getD k 0, List.mem_of_getElem? (getD_of h), hb⟩
theorem ba_none {l : List Int} (h : ∀ j, j < l.length → ba (l.getD j 0) = false) : l.any ba = false := by
  rw [List.any_eq_false]
  intro x hx
  obtain ⟨j, hj⟩ := List.getElem?_of_mem hx
  have h1 : j < l.length := (List.getElem?_eq_some_iff.1 hj).1
  have h2 := h j h1
  have h3 := getD_of h1
  rw [h3] at hj
  rw [← Option.some.inj hj, h2]
  exact Bool.false_ne_true
def vaB (l : List Int) : Bool := decide (l.length ≤ 1200) && !l.any ba
end Go.Proofs.Ytigpopemllamdaa
