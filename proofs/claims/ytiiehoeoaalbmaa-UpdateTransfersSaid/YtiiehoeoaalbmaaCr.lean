/- The contracts of digests, tags and powers. -/
import Derived.Test.YtiiehoeoaalbmaaBa
import Derived.Test.YtiiehoeoaalbmaaCm
namespace Go.Proofs.Ytiiehoeoaalbmaa
open Go.RowKit

theorem tmod_split {m : Int} (hm : 0 < m) (n : Int) : n % m = if n.tmod m < 0 then n.tmod m + m else n.tmod m := by
  by_cases h : 0 ≤ n
  · rw [Int.tmod_eq_emod_of_nonneg h, if_neg (by have := Int.emod_nonneg n (show m ≠ 0 by omega); omega)]
  · have e : n.tmod m = -((-n) % m) := by rw [← Int.tmod_eq_emod_of_nonneg (by omega), Int.neg_tmod, Int.neg_neg]
    rw [e]
    have h1 := Int.emod_nonneg (-n) (show m ≠ 0 by omega)
    have h2 := Int.emod_lt_of_pos (-n) hm
    have h3 := Int.emod_nonneg n (show m ≠ 0 by omega)
    have h4 := Int.emod_lt_of_pos n hm
    have d : m ∣ (n % m + (-n) % m) := by
      have e1 := Int.emod_add_mul_ediv n m
      have e2 := Int.emod_add_mul_ediv (-n) m
      exact ⟨-(n / m) - (-n) / m, by rw [Int.mul_sub, Int.mul_neg]; omega⟩
    obtain ⟨k, hk⟩ := d
    by_cases hz : (-n) % m = 0
    · rw [if_neg (by omega)]
      have : k = 0 := by
        rcases Int.lt_trichotomy k 0 with hh | hh | hh
        · have := Int.mul_le_mul_of_nonneg_left (show k ≤ -1 by omega) (show 0 ≤ m by omega); omega
        · exact hh
        · have := Int.mul_le_mul_of_nonneg_left (show 1 ≤ k by omega) (show 0 ≤ m by omega); omega
      subst this; omega
    · rw [if_pos (by omega)]
      have : k = 1 := by
        rcases Int.lt_trichotomy k 1 with hh | hh | hh
        · have := Int.mul_le_mul_of_nonneg_left (show k ≤ 0 by omega) (show 0 ≤ m by omega); omega
        · exact hh
        · have := Int.mul_le_mul_of_nonneg_left (show 2 ≤ k by omega) (show 0 ≤ m by omega); omega
      subst this; omega
theorem tmod_wrap {m : Int} (hm : 0 < m) (h2 : m ≤ 2147483647) (n : Int) : -2147483647 ≤ n.tmod m ∧ n.tmod m ≤ 2147483647 := by
  have h := tmod_split hm n
  have h3 := Int.emod_nonneg n (show m ≠ 0 by omega)
  have h4 := Int.emod_lt_of_pos n hm
  split at h <;> omega
set_option maxHeartbeats 1000000 in
theorem remainder_any (n m : Int) (w : World) (hm : 0 < m) (h2 : m ≤ 2147483647) :
    Calls Try.prog 74 #[.int .i64 n, .int .i64 m] w fun e w' => e = .returned (.int .i64 (n % m)) ∧ w = w' := by
  have hs := tmod_split hm n
  obtain ⟨b1, b2⟩ := tmod_wrap hm h2 n
  by_cases h : n.tmod m < 0
  · rw [if_pos h] at hs
    have HS := Lib.hid hs
    clear hs
    go_enter Try.func74, Try.ntmps74
    go_wp2
    go_ret
    exact ⟨ret_int HS.out.symm, rfl⟩
  · rw [if_neg h] at hs
    have HS := Lib.hid hs
    clear hs
    go_enter Try.func74, Try.ntmps74
    go_wp2
    go_ret
    exact ⟨ret_int HS.out.symm, rfl⟩
end Go.Proofs.Ytiiehoeoaalbmaa
