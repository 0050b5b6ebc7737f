import Derived.WalkKit
namespace Go.Proofs.Yteodafhgfcbdpaa

/-- The digest after one more number, and the digest of numbers. -/
def dg (h n : Int) : Int := (h * 1000003 + n % 2147483647 + 1) % 2147483647
def Dg (l : List Int) : Int := l.foldl dg 7
theorem dg_bd (h n : Int) : 0 ≤ dg h n ∧ dg h n < 2147483647 := ⟨Int.emod_nonneg _ (by omega), Int.emod_lt_of_pos _ (by omega)⟩
theorem Dg_snoc (l : List Int) (x : Int) : Dg (l ++ [x]) = dg (Dg l) x := by simp [Dg]
theorem foldl_bd : ∀ (l : List Int) (h : Int), 0 ≤ h ∧ h < 2147483647 → 0 ≤ l.foldl dg h ∧ l.foldl dg h < 2147483647
  | [], _, hh => hh
  | x :: l, h, _ => foldl_bd l (dg h x) (dg_bd h x)
theorem Dg_bd (l : List Int) : 0 ≤ Dg l ∧ Dg l < 2147483647 := foldl_bd l 7 (by omega)
end Go.Proofs.Yteodafhgfcbdpaa
