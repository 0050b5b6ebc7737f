/- Law CryptoKeys, the walk. -/
import Derived.Test.YtkmplekfcalggaaGk
namespace Go.Proofs.Ytkmplekfcalggaa
open Go.RowKit

theorem per1 : pwn 7 2147483646 = 1 := by
  have h := fpw_eq 32 1 7 2147483646 (by decide +kernel)
  rw [Int.one_mul, Int.emod_eq_of_lt (pwn_bd _ _).1 (pwn_bd _ _).2] at h
  rw [h]
  decide +kernel
theorem per_add (n : Nat) : ∀ k, pwn 7 (n + k * 2147483646) = pwn 7 n
  | 0 => by rw [Nat.zero_mul, Nat.add_zero]
  | k + 1 => by
    rw [Nat.succ_mul, ← Nat.add_assoc, pwn_add, per_add n k, per1, Int.mul_one, Int.emod_eq_of_lt (pwn_bd _ _).1 (pwn_bd _ _).2]
theorem per_mod (n : Nat) : pwn 7 (n % 2147483646) = pwn 7 n := by
  have h := per_add (n % 2147483646) (n / 2147483646)
  rw [← h]
  congr 1
  omega
theorem ex_add (a b : Int) : ex (a + b) = (ex a + ex b) % 2147483646 := by
  have h1 := ex_cast a
  have h2 := ex_cast b
  have h3 := ex_cast (a + b)
  rw [Int.add_emod, h1, h2] at h3
  omega
theorem ex_mul (a b : Int) : ex (a * b) = (ex a * ex b) % 2147483646 := by
  have h1 := ex_cast a
  have h2 := ex_cast b
  have h3 := ex_cast (a * b)
  rw [Int.mul_emod, h1, h2] at h3
  have h4 : ((ex a * ex b : Nat) : Int) % 2147483646 = (ex (a * b) : Int) := by rw [Int.natCast_mul]; exact h3
  omega
theorem pw_plus (a b : Int) : pw 7 (a + b) = (pw 7 a * pw 7 b) % 2147483647 := by
  rw [show pw 7 (a + b) = pwn 7 (ex (a + b)) from rfl, ex_add, per_mod, pwn_add]; rfl
theorem pw_times (a b : Int) : pw (pw 7 b) a = pw 7 (a * b) := by
  rw [show pw 7 (a * b) = pwn 7 (ex (a * b)) from rfl, ex_mul, per_mod, show pw (pw 7 b) a = pwn (pwn 7 (ex b)) (ex a) from rfl, pwn_pwn, Nat.mul_comm]
theorem pos_of {x : Int} (h1 : 0 ≤ x) (h2 : x ≠ 0) : 0 < x := by omega
set_option maxRecDepth 100000 in
set_option maxHeartbeats 4000000 in
theorem keys_any (a b : Int) (w : World) (a0 : -2147483648 ≤ a) (a9 : a ≤ 2147483647) (b0 : -2147483648 ≤ b) (b9 : b ≤ 2147483647) : Calls Try.prog 6 #[.int .i32 a, .int .i32 b] w fun e w' => e = .returned (.bool true) ∧ Below w.heap.size w w' := by
  have h1 : -4611686018427387904 ≤ a * b ∧ a * b ≤ 4611686018427387904 := by
    constructor
    · by_cases ha : 0 ≤ a
      · have := Int.mul_le_mul_of_nonneg_left b0 ha; omega
      · have := Int.mul_le_mul_of_nonpos_left (a := a) (by omega) b9; omega
    · by_cases ha : 0 ≤ a
      · have := Int.mul_le_mul_of_nonneg_left b9 ha; omega
      · have := Int.mul_le_mul_of_nonpos_left (a := a) (by omega) b0; omega
  have w1 : wrap64 a = a := IntWalk.wrap64_in _ (by omega)
  have w2 : wrap64 b = b := IntWalk.wrap64_in _ (by omega)
  have w3 : wrap64 (a * b) = a * b := IntWalk.wrap64_in _ (by omega)
  have w4 : wrap64 (a + b) = a + b := IntWalk.wrap64_in _ (by omega)
  have HB0 := Lib.hid (Below.refl w.heap.size w)
  go_enter Try.func6, Try.ntmps6
  go_wp2_with fail
  refine (head_any _).mono ?_
  rintro e u1 ⟨rfl, b1⟩
  have HB1 := Lib.hid (keep2 b1 HB0.out)
  clear HB0 b1
  go_wp2_with fail
  refine (public_any a _).mono ?_
  rintro e w' ⟨rfl, rfl⟩
  go_wp2_with fail
  refine (public_any b _).mono ?_
  rintro e w' ⟨rfl, rfl⟩
  obtain ⟨X, hX⟩ : ∃ z, pw 7 a = z := ⟨_, rfl⟩
  obtain ⟨Y, hY⟩ : ∃ z, pw 7 b = z := ⟨_, rfl⟩
  obtain ⟨K, hK⟩ : ∃ z, pw Y a = z := ⟨_, rfl⟩
  obtain ⟨Z, hZ⟩ : ∃ z, (X * Y) % 2147483647 = z := ⟨_, rfl⟩
  have F1 := Lib.hid (show pw X b = K by rw [← hX, pw_agree, hY, hK])
  have F2 := Lib.hid (show pw 7 (a * b) = K by rw [← pw_times, hY, hK])
  have F3 := Lib.hid (show pw 7 (a + b) = Z by rw [pw_plus, hX, hY, hZ])
  have x0 := pos_of (pw_bd 7 a).1 (pw_seven a)
  have y0 := pos_of (pw_bd 7 b).1 (pw_seven b)
  have k0 := pos_of (pw_bd (pw 7 b) a).1 (pw_key b a)
  have xb := mul_bd (pw_bd 7 a).1 (pw_bd 7 a).2 (pw_bd 7 b).1 (pw_bd 7 b).2
  rw [hX] at x0
  rw [hY] at y0
  rw [hY, hK] at k0
  rw [hX, hY] at xb ⊢
  have q1 : wrap64 (X * Y) = X * Y := IntWalk.wrap64_in _ (by omega)
  have q2 : (X * Y).tmod 2147483647 = Z := by rw [Int.tmod_eq_emod_of_nonneg xb.1]; exact hZ
  have q2b : (X * Y) % 2147483647 = Z := hZ
  have q3 : wrap64 Z = Z := IntWalk.wrap64_in _ (by omega)
  replace hK := Lib.hid hK
  clear hX hY hZ h1
  go_wp2_with fail
  refine (shared_any a Y _).mono ?_
  rintro e w' ⟨rfl, rfl⟩
  rw [hK.out]
  go_wp2_with fail
  refine (shared_any b X _).mono ?_
  rintro e w' ⟨rfl, rfl⟩
  rw [F1.out]
  go_wp2_with fail
  refine (public_any (a * b) _).mono ?_
  rintro e w' ⟨rfl, rfl⟩
  rw [F2.out]
  go_wp2_with fail
  refine (public_any (a + b) _).mono ?_
  rintro e w' ⟨rfl, rfl⟩
  rw [F3.out]
  go_wp2
  go_ret
  exact ⟨rfl, HB1.out⟩
end Go.Proofs.Ytkmplekfcalggaa
