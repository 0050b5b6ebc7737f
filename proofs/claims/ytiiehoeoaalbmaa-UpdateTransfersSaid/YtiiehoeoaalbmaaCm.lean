/- Plain facts on digests and powers. -/
import Derived.WalkKit
namespace Go.Proofs.Ytiiehoeoaalbmaa

/-- The digest after one more number, and the digest of numbers. -/
def dg (h n : Int) : Int := (h * 1000003 + n % 2147483647 + 1) % 2147483647
def Dg (l : List Int) : Int := l.foldl dg 7
theorem dg_bd (h n : Int) : 0 ≤ dg h n ∧ dg h n < 2147483647 := ⟨Int.emod_nonneg _ (by omega), Int.emod_lt_of_pos _ (by omega)⟩
theorem Dg_snoc (l : List Int) (x : Int) : Dg (l ++ [x]) = dg (Dg l) x := by simp [Dg]
theorem foldl_bd : ∀ (l : List Int) (h : Int), 0 ≤ h ∧ h < 2147483647 → 0 ≤ l.foldl dg h ∧ l.foldl dg h < 2147483647
  | [], _, hh => hh
  | x :: l, h, _ => foldl_bd l (dg h x) (dg_bd h x)
theorem Dg_bd (l : List Int) : 0 ≤ Dg l ∧ Dg l < 2147483647 := foldl_bd l 7 (by omega)
theorem mod_mul {a b p : Int} (v : Int) (e : a % p = b % p) : (v * a) % p = (v * b) % p := by rw [Int.mul_emod, e, ← Int.mul_emod]
theorem mul_mod_l (a b p : Int) : (a % p * b) % p = (a * b) % p := by rw [Int.mul_emod, Int.emod_emod_of_dvd _ (Int.dvd_refl _), ← Int.mul_emod]
theorem mul_mod_r (a b p : Int) : (a * (b % p)) % p = (a * b) % p := by rw [Int.mul_comm, mul_mod_l, Int.mul_comm]
/-- The digest is different for different digests before, and for different remainders. -/
theorem dg_inj {h k n : Int} (h1 : 0 ≤ h ∧ h < 2147483647) (h2 : 0 ≤ k ∧ k < 2147483647) (e : dg h n = dg k n) : h = k := by
  unfold dg at e
  have e2 := mod_mul 1523789695 e
  generalize n % 2147483647 = r at e2
  clear e
  omega
theorem dg_inj2 {h m n : Int} (e : dg h m = dg h n) : m % 2147483647 = n % 2147483647 := by
  unfold dg at e
  omega
theorem foldl_inj : ∀ (l : List Int) {h k : Int}, 0 ≤ h ∧ h < 2147483647 → 0 ≤ k ∧ k < 2147483647 → l.foldl dg h = l.foldl dg k → h = k
  | [], _, _, _, _, e => e
  | x :: l, h, k, h1, h2, e => dg_inj h1 h2 (foldl_inj l (dg_bd h x) (dg_bd k x) e)
/-- One number replaced: the digest changes exactly if the remainder does. -/
theorem Dg_replace (a b : List Int) (x y : Int) : Dg (a ++ x :: b) = Dg (a ++ y :: b) ↔ x % 2147483647 = y % 2147483647 := by
  unfold Dg
  rw [List.foldl_append, List.foldl_append, List.foldl_cons, List.foldl_cons]
  constructor
  · intro e
    exact dg_inj2 (foldl_inj b (dg_bd _ _) (dg_bd _ _) e)
  · intro e
    rw [show dg (a.foldl dg 7) x = dg (a.foldl dg 7) y by unfold dg; rw [e]]

/-- The exponent of a secret; the power with it. -/
def ex (s : Int) : Nat := (s % 2147483646).toNat
def pwn (b : Int) (n : Nat) : Int := b ^ n % 2147483647
def pw (b s : Int) : Int := pwn b (ex s)
theorem pwn_bd (b : Int) (n : Nat) : 0 ≤ pwn b n ∧ pwn b n < 2147483647 := ⟨Int.emod_nonneg _ (by omega), Int.emod_lt_of_pos _ (by omega)⟩
theorem pw_bd (b s : Int) : 0 ≤ pw b s ∧ pw b s < 2147483647 := pwn_bd _ _
theorem pwn_zero (b : Int) : pwn b 0 = 1 := by unfold pwn; rw [Int.pow_zero]; rfl
theorem pwn_succ (b : Int) (n : Nat) : pwn b (n + 1) = (pwn b n * b) % 2147483647 := by
  unfold pwn; rw [Int.pow_succ, mul_mod_l]
theorem pwn_add (b : Int) (n m : Nat) : pwn b (n + m) = (pwn b n * pwn b m) % 2147483647 := by
  unfold pwn; rw [Int.pow_add, Int.mul_emod]
theorem pwn_mod (b : Int) (n : Nat) : pwn (b % 2147483647) n = pwn b n := by
  induction n with
  | zero => rw [pwn_zero, pwn_zero]
  | succ n ih => rw [pwn_succ, pwn_succ, ih, mul_mod_r]
theorem pwn_pwn (b : Int) (n m : Nat) : pwn (pwn b n) m = pwn b (n * m) := by
  induction m with
  | zero => rw [Nat.mul_zero, pwn_zero, pwn_zero]
  | succ m ih => rw [pwn_succ, ih, Nat.mul_succ, pwn_add]
theorem pwn_mul (a b : Int) (n : Nat) : pwn (a * b) n = (pwn a n * pwn b n) % 2147483647 := by
  unfold pwn; rw [Int.mul_pow, Int.mul_emod]
/-- Both sides compute the same. -/
theorem pw_agree (a b : Int) : pw (pw 7 a) b = pw (pw 7 b) a := by
  unfold pw; rw [pwn_pwn, pwn_pwn, Nat.mul_comm]
theorem one_pow : ∀ n : Nat, (1 : Int) ^ n = 1
  | 0 => rfl
  | n + 1 => by rw [Int.pow_succ, one_pow n]; rfl
theorem pwn_seven (n : Nat) : pwn 7 n ≠ 0 := by
  intro h
  have h1 : pwn (7 * 1840700269) n = (pwn 7 n * pwn 1840700269 n) % 2147483647 := pwn_mul _ _ _
  rw [h, Int.zero_mul] at h1
  have h2 : pwn (7 * 1840700269) n = pwn 1 n := by rw [← pwn_mod (7 * 1840700269)]; congr 1
  rw [h2] at h1
  unfold pwn at h1
  rw [one_pow] at h1
  omega
theorem pw_seven (a : Int) : pw 7 a ≠ 0 := pwn_seven _
theorem pw_key (a b : Int) : pw (pw 7 a) b ≠ 0 := by unfold pw; rw [pwn_pwn]; exact pwn_seven _
/-- One round of the computing of a power. -/
theorem pwn_round (o b : Int) (n : Nat) : (o * pwn b n) % 2147483647 = ((if n % 2 = 1 then (o * b) % 2147483647 else o) * pwn ((b * b) % 2147483647) (n / 2)) % 2147483647 := by
  have e1 : pwn ((b * b) % 2147483647) (n / 2) = pwn b (2 * (n / 2)) := by
    rw [pwn_mod, show b * b = b ^ 2 by rw [Int.pow_succ, Int.pow_succ, Int.pow_zero, Int.one_mul]]
    unfold pwn
    rw [← Int.pow_mul]
  rw [e1]
  by_cases h : n % 2 = 1
  · rw [if_pos h]
    have hn : n = 2 * (n / 2) + 1 := by omega
    have e2 : pwn b n = (pwn b (2 * (n / 2)) * b) % 2147483647 := by
      conv => lhs; rw [hn]
      exact pwn_succ _ _
    rw [e2, mul_mod_r, mul_mod_l, Int.mul_assoc, Int.mul_comm b]
  · rw [if_neg h]
    have hn : n = 2 * (n / 2) := by omega
    conv => lhs; rw [hn]
end Go.Proofs.Ytiiehoeoaalbmaa
