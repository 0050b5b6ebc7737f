import Derived.WalkKit
namespace Go.Proofs.Yteodafhgfcbdpaa

/-- The digest after one more number, and the digest of numbers. -/
def dg (h n : Int) : Int := (h * 1000003 + n % 2147483647 + 1) % 2147483647
def Dg (l : List Int) : Int := l.foldl dg 7
theorem dg_bd (h n : Int) : 0 ≤ dg h n ∧ dg h n < 2147483647 := ⟨Int.emod_nonneg _ (by omega), Int.emod_lt_of_pos _ (by omega)⟩
theorem Dg_snoc (l : List Int) (x : Int) : Dg (l ++ [x]) = dg (Dg l) x := by simp [Dg]
theorem foldl_bd : ∀ (l : List Int) (h : Int), 0 ≤ h ∧ h < 2147483647 → 0 ≤ l.foldl dg h ∧ l.foldl dg h < 2147483647
  | [], _, hh => hh
  | x :: l, h, _ => foldl_bd l (dg h x) (dg_bd h x)
theorem Dg_bd (l : List Int) : 0 ≤ Dg l ∧ Dg l < 2147483647 := foldl_bd l 7 (by omega)
theorem mod_mul {a b p : Int} (v : Int) (e : a % p = b % p) : (v * a) % p = (v * b) % p := by rw [Int.mul_emod, e, ← Int.mul_emod]
/-- The digest is different for different digests before, and for different remainders. -/
theorem dg_inj {h k n : Int} (h1 : 0 ≤ h ∧ h < 2147483647) (h2 : 0 ≤ k ∧ k < 2147483647) (e : dg h n = dg k n) : h = k := by
  unfold dg at e
  have e2 := mod_mul 1523789695 e
  generalize n % 2147483647 = r at e2
  clear e
  omega
theorem dg_inj2 {h m n : Int} (e : dg h m = dg h n) : m % 2147483647 = n % 2147483647 := by
  unfold dg at e
  omega
theorem foldl_inj : ∀ (l : List Int) {h k : Int}, 0 ≤ h ∧ h < 2147483647 → 0 ≤ k ∧ k < 2147483647 → l.foldl dg h = l.foldl dg k → h = k
  | [], _, _, _, _, e => e
  | x :: l, h, k, h1, h2, e => dg_inj h1 h2 (foldl_inj l (dg_bd h x) (dg_bd k x) e)
/-- One number replaced: the digest changes exactly if the remainder does. -/
theorem Dg_replace (a b : List Int) (x y : Int) : Dg (a ++ x :: b) = Dg (a ++ y :: b) ↔ x % 2147483647 = y % 2147483647 := by
  unfold Dg
  rw [List.foldl_append, List.foldl_append, List.foldl_cons, List.foldl_cons]
  constructor
  · intro e
    exact dg_inj2 (foldl_inj b (dg_bd _ _) (dg_bd _ _) e)
  · intro e
    rw [show dg (a.foldl dg 7) x = dg (a.foldl dg 7) y by unfold dg; rw [e]]

end Go.Proofs.Yteodafhgfcbdpaa
