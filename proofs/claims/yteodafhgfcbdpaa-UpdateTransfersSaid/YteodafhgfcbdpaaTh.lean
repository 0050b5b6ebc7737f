import Derived.Test.YteodafhgfcbdpaaLh
namespace Go.Proofs.Yteodafhgfcbdpaa
open Go.RowKit

theorem cld_mem {Ls : List (List Int)} {x y : List Int} (hx : x ∈ Ls) (hy : y ∈ Ls) (hn : x ≠ y) (hd : Dg x = Dg y) : Cld Ls := by
  obtain ⟨i, hi, rfl⟩ := List.getElem_of_mem hx
  obtain ⟨j, hj, rfl⟩ := List.getElem_of_mem hy
  refine ⟨i, j, hi, hj, ?_⟩
  unfold cdB
  rw [show Ls.getD i [] = Ls[i] by simp [hi], show Ls.getD j [] = Ls[j] by simp [hj]]
  exact ⟨hn, hd⟩
/-- The pairs of a row, as lists. -/
def prs : List Int → List (List Int)
  | x :: y :: r => [1, x, y] :: prs r
  | _ => []
/-- The lists of all pairs of a row and of those above it. -/
def allP : List (List Int) → List (List Int)
  | [] => []
  | row :: r => prs row ++ allP r
/-- The lists of the tree. -/
def trL (L : List (List Int)) : List (List Int) := (L.flatMap fun l => [l, [0, Dg l]]) ++ allP (rowsT (lvs L))
end Go.Proofs.Yteodafhgfcbdpaa
