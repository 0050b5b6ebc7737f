/- Hash trees: plain facts. -/
import Derived.Test.YtiiehoeoaalbmaaCt

import Derived.Test.YtiiehoeoaalbmaaCd
import Derived.Test.YtiiehoeoaalbmaaBb
namespace Go.Proofs.Ytiiehoeoaalbmaa
open Go.RowKit

/-- A node, a leaf; the row that follows a row; all rows. -/
def nd (x y : Int) : Int := Dg [1, x, y]
def lf (l : List Int) : Int := Dg [0, Dg l]
def pairs (row : List Int) : List Int := (List.range (row.length / 2)).map fun i => nd (row.getD (2 * i) 0) (row.getD (2 * i + 1) 0)
def upR (row : List Int) : List Int := pairs row ++ (if row.length % 2 = 1 then [row.getD (row.length - 1) 0] else [])
theorem pairs_len (row : List Int) : (pairs row).length = row.length / 2 := by simp [pairs]
theorem upR_len (row : List Int) : (upR row).length = (row.length + 1) / 2 := by
  unfold upR
  rw [List.length_append, pairs_len]
  split <;> simp <;> omega
theorem pairs_take {row : List Int} {k : Nat} (h : k < row.length / 2) : (pairs row).take (k + 1) = (pairs row).take k ++ [nd (row.getD (2 * k) 0) (row.getD (2 * k + 1) 0)] := by
  rw [List.take_succ_eq_append_getElem (by rw [pairs_len]; exact h)]; simp [pairs]
def rowsF : Nat → List Int → List (List Int)
  | 0, _ => []
  | n + 1, row => if 1 < row.length then row :: rowsF n (upR row) else if row.length = 1 then [row] else []
def rowsT (row : List Int) : List (List Int) := rowsF row.length row
theorem rowsF_more : ∀ (n m : Nat) (row : List Int), row.length ≤ n → row.length ≤ m → rowsF n row = rowsF m row
  | 0, 0, _, _, _ => rfl
  | 0, m + 1, row, h, _ => by
    have : row.length = 0 := by omega
    simp [rowsF, this]
  | n + 1, 0, row, _, h => by
    have : row.length = 0 := by omega
    simp [rowsF, this]
  | n + 1, m + 1, row, h, h2 => by
    unfold rowsF
    by_cases g : 1 < row.length
    · rw [if_pos g, if_pos g, rowsF_more n m (upR row) (by rw [upR_len]; omega) (by rw [upR_len]; omega)]
    · rw [if_neg g, if_neg g]
theorem rowsT_more {row : List Int} (h : 1 < row.length) : rowsT row = row :: rowsT (upR row) := by
  unfold rowsT
  rw [show row.length = (row.length - 1) + 1 by omega]
  conv => lhs; unfold rowsF
  rw [if_pos h, rowsF_more (row.length - 1) (upR row).length (upR row) (by rw [upR_len]; omega) (Nat.le_refl _)]
theorem rowsT_one {row : List Int} (h : row.length = 1) : rowsT row = [row] := by
  unfold rowsT
  rw [h]; simp [rowsF, h]
theorem rowsT_none : rowsT [] = [] := rfl
/-- The row of the leaves; the root. -/
def lvs (L : List (List Int)) : List Int := L.map lf
def rtT (row : List Int) : Int := ((rowsT row).getLastD [7]).getD 0 0
def rtL (L : List (List Int)) : Int := if 1000 < L.length then 0 else rtT (lvs L)
end Go.Proofs.Ytiiehoeoaalbmaa
