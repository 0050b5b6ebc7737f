/- The contracts of 'power', 'Public', 'Shared'. -/
import Derived.Test.YtkmplekfcalggaaCr
namespace Go.Proofs.Ytkmplekfcalggaa
open Go.RowKit

theorem ex_cast (s : Int) : s % 2147483646 = (ex s : Int) := by unfold ex; have := Int.emod_nonneg s (show (2147483646 : Int) ≠ 0 by omega); omega
theorem ex_bd (s : Int) : ex s ≤ 2147483646 := by unfold ex; have := Int.emod_lt_of_pos s (show (0 : Int) < 2147483646 by omega); omega
theorem mul_bd {a b : Int} (h1 : 0 ≤ a) (h2 : a < 2147483647) (h3 : 0 ≤ b) (h4 : b < 2147483647) : 0 ≤ a * b ∧ a * b ≤ 4611686009837453316 := by
  refine ⟨Int.mul_nonneg h1 h3, ?_⟩
  have := Int.mul_le_mul (show a ≤ 2147483646 by omega) (show b ≤ 2147483646 by omega) h3 (by omega)
  omega
theorem half_cast (n : Nat) : Value.int .i64 ((n : Int) / 2) = .int .i64 ((n / 2 : Nat) : Int) := by rw [show (n : Int) / 2 = ((n / 2 : Nat) : Int) by omega]
/-- What holds at a round's head. -/
def PwRel (B : Int) (E : Nat) (b o e : Value) : Prop := ∃ (x y : Int) (n : Nat), b = .int .i64 x ∧ o = .int .i64 y ∧ e = .int .i64 n ∧ (0 ≤ x ∧ x < 2147483647) ∧ (0 ≤ y ∧ y < 2147483647) ∧ n ≤ 2147483646 ∧ Hid ((y * pwn x n) % 2147483647 = pwn B E)
theorem pw_next {B x y : Int} {E n : Nat} (h : (y * pwn x n) % 2147483647 = pwn B E) (_hn : 0 < n) : ((if n % 2 = 1 then (y * x) % 2147483647 else y) * pwn ((x * x) % 2147483647) (n / 2)) % 2147483647 = pwn B E := by
  rw [← pwn_round]; exact h
theorem pw_last {B x y : Int} {E : Nat} (h : (y * pwn x 0) % 2147483647 = pwn B E) (h1 : 0 ≤ y) (h2 : y < 2147483647) : y = pwn B E := by
  rw [pwn_zero, Int.mul_one] at h; rw [← h, Int.emod_eq_of_lt h1 h2]
set_option maxRecDepth 100000 in
set_option maxHeartbeats 1000000 in
theorem power_any (b s : Int) (w : World) :
    Calls Try.prog 39 #[.int .i64 b, .int .i64 s] w fun e w' => e = .returned (.int .i64 (pw b s)) ∧ w = w' := by
  have g1 : 0 ≤ b % 2147483647 := Int.emod_nonneg _ (by omega)
  have g2 : b % 2147483647 < 2147483647 := Int.emod_lt_of_pos _ (by omega)
  have g3 := ex_bd s
  have H0 := Lib.hid (show (1 * pwn (b % 2147483647) (ex s)) % 2147483647 = pwn b (ex s) by rw [Int.one_mul, pwn_mod]; exact Int.emod_eq_of_lt (pwn_bd _ _).1 (pwn_bd _ _).2)
  go_enter Try.func39, Try.ntmps39
  go_wp2_with fail
  refine (remainder_any b 2147483647 _ (by omega) (by omega)).mono ?_
  rintro e w' ⟨rfl, rfl⟩
  go_wp2_with fail
  refine (remainder_any s 2147483646 _ (by omega) (by omega)).mono ?_
  rintro e w' ⟨rfl, rfl⟩
  rw [ex_cast]
  go_wp2_with fail
  go_loop [0, 5, 6] (fun x y e => PwRel b (ex s) x y e) (fun _ _ e => (intOf e).toNat)
  case atStart => exact ⟨_, _, _, rfl, rfl, rfl, ⟨g1, g2⟩, by omega, g3, H0⟩
  case round =>
    obtain ⟨x, y, n, rfl, rfl, rfl, ⟨x1, x2⟩, ⟨y1, y2⟩, hn, HH⟩ := hrel
    obtain ⟨m1, m2⟩ := mul_bd x1 x2 x1 x2
    obtain ⟨m3, m4⟩ := mul_bd y1 y2 x1 x2
    by_cases h0 : 0 < n
    · have HN := Lib.hid (pw_next HH.out h0)
      have g5 : 0 ≤ (x * x) % 2147483647 := Int.emod_nonneg _ (by omega)
      have g6 : (x * x) % 2147483647 < 2147483647 := Int.emod_lt_of_pos _ (by omega)
      have g7 : 0 ≤ (y * x) % 2147483647 := Int.emod_nonneg _ (by omega)
      have g8 : (y * x) % 2147483647 < 2147483647 := Int.emod_lt_of_pos _ (by omega)
      by_cases h1 : n % 2 = 1
      · have q1 : ((n : Int) % 2 == 1) = true := by simp; omega
        have HM := Lib.hid HN.out
        rw [if_pos h1] at HM
        clear HN h1
        go_wp2
        go_round
        case rel => exact ⟨_, _, n / 2, rfl, rfl, half_cast n, ⟨g5, g6⟩, ⟨g7, g8⟩, by omega, HM⟩
        case measure => simp [intOf]; omega
      · have q1 : ((n : Int) % 2 == 1) = false := by simp; omega
        have HM := Lib.hid HN.out
        rw [if_neg h1] at HM
        clear HN h1
        go_wp2
        go_round
        case rel => exact ⟨_, _, n / 2, rfl, rfl, half_cast n, ⟨g5, g6⟩, ⟨y1, y2⟩, by omega, HM⟩
        case measure => simp [intOf]; omega
    · obtain rfl : n = 0 := by omega
      have HM := Lib.hid (pw_last HH.out y1 y2)
      clear HH
      go_wp2
      go_ret
      exact ⟨ret_int HM.out, rfl⟩
theorem public_any (s : Int) (w : World) : Calls Try.prog 19 #[.int .i64 s] w fun e w' => e = .returned (.int .i64 (pw 7 s)) ∧ w = w' := by
  go_enter Try.func19, Try.ntmps19
  go_wp2_with fail
  refine (power_any 7 s _).mono ?_
  rintro e w' ⟨rfl, rfl⟩
  go_wp2
  go_ret
  exact ⟨rfl, rfl⟩
theorem shared_any (s p : Int) (w : World) : Calls Try.prog 21 #[.int .i64 s, .int .i64 p] w fun e w' => e = .returned (.int .i64 (pw p s)) ∧ w = w' := by
  go_enter Try.func21, Try.ntmps21
  go_wp2_with fail
  refine (power_any p s _).mono ?_
  rintro e w' ⟨rfl, rfl⟩
  go_wp2
  go_ret
  exact ⟨rfl, rfl⟩
end Go.Proofs.Ytkmplekfcalggaa
