/- Capabilities: the small functions of the reference. -/
import Derived.Test.YtoaleijfpocdjaaKk
namespace Go.Proofs.Ytoaleijfpocdjaa
open Go.RowKit

theorem between_any (n lo hi : Int) (w : World) : Calls Try.prog 24 #[.int .i64 n, .int .i64 lo, .int .i64 hi] w fun e w' => e = .returned (.bool (inr n lo hi)) ∧ w = w' := by
  by_cases h1 : lo ≤ n <;> by_cases h2 : n ≤ hi
  all_goals
    have HR := Lib.hid (show inr n lo hi = (decide (lo ≤ n) && decide (n ≤ hi)) from rfl)
    simp only [h1, h2, decide_true, decide_false, Bool.and_self, Bool.and_false, Bool.and_true] at HR
    go_enter Try.func24, Try.ntmps24
    go_wp2
    go_ret
    exact ⟨ret_bool HR.out.symm, rfl⟩
theorem between_q (n lo hi : Int) (b : Bool) (hb : inr n lo hi = b) (w : World) : Calls Try.prog 24 #[.int .i64 n, .int .i64 lo, .int .i64 hi] w fun e w' => e = .returned (.bool b) ∧ w = w' := by
  rw [← hb]; exact between_any n lo hi w
set_option maxRecDepth 100000 in
set_option maxHeartbeats 1000000 in
theorem rask_any (r v x t : Int) (w : World) : Calls Try.prog 11 #[.agg #[.int .i64 r, .int .i64 v, .int .i64 x, .int .i64 t]] w fun e w' => e = .returned (.bool (asB r v x t)) ∧ Below w.heap.size w w' := by
  cases h0 : inr r 0 1000000
  · have HR := Lib.hid (show asB r v x t = false by unfold asB; simp [h0])
    have H0 := Lib.hid h0; clear h0
    go_enter Try.func11, Try.ntmps11
    go_wp2_with fail
    refine (between_q r 0 1000000 _ H0.out _).mono ?_
    rintro e w' ⟨rfl, rfl⟩
    go_wp2
    go_ret
    exact ⟨ret_bool HR.out.symm, al _ _⟩
  · cases h1 : inr v 0 1000000
    · have HR := Lib.hid (show asB r v x t = false by unfold asB; simp [h0, h1])
      have H0 := Lib.hid h0; clear h0
      have H1 := Lib.hid h1; clear h1
      go_enter Try.func11, Try.ntmps11
      go_wp2_with fail
      refine (between_q r 0 1000000 _ H0.out _).mono ?_
      rintro e w' ⟨rfl, rfl⟩
      go_wp2_with fail
      refine (between_q v 0 1000000 _ H1.out _).mono ?_
      rintro e w' ⟨rfl, rfl⟩
      go_wp2
      go_ret
      exact ⟨ret_bool HR.out.symm, al _ _⟩
    · cases h2 : inr x 0 15
      · have HR := Lib.hid (show asB r v x t = false by unfold asB; simp [h0, h1, h2])
        have H0 := Lib.hid h0; clear h0
        have H1 := Lib.hid h1; clear h1
        have H2 := Lib.hid h2; clear h2
        go_enter Try.func11, Try.ntmps11
        go_wp2_with fail
        refine (between_q r 0 1000000 _ H0.out _).mono ?_
        rintro e w' ⟨rfl, rfl⟩
        go_wp2_with fail
        refine (between_q v 0 1000000 _ H1.out _).mono ?_
        rintro e w' ⟨rfl, rfl⟩
        go_wp2_with fail
        refine (between_q x 0 15 _ H2.out _).mono ?_
        rintro e w' ⟨rfl, rfl⟩
        go_wp2
        go_ret
        exact ⟨ret_bool HR.out.symm, al _ _⟩
      · have HR := Lib.hid (show asB r v x t = inr t 0 1000000000 by unfold asB; simp [h0, h1, h2])
        have H0 := Lib.hid h0; clear h0
        have H1 := Lib.hid h1; clear h1
        have H2 := Lib.hid h2; clear h2
        go_enter Try.func11, Try.ntmps11
        go_wp2_with fail
        refine (between_q r 0 1000000 _ H0.out _).mono ?_
        rintro e w' ⟨rfl, rfl⟩
        go_wp2_with fail
        refine (between_q v 0 1000000 _ H1.out _).mono ?_
        rintro e w' ⟨rfl, rfl⟩
        go_wp2_with fail
        refine (between_q x 0 15 _ H2.out _).mono ?_
        rintro e w' ⟨rfl, rfl⟩
        go_wp2_with fail
        refine (between_any t 0 1000000000 _).mono ?_
        rintro e w' ⟨rfl, rfl⟩
        go_wp2
        go_ret
        exact ⟨ret_bool HR.out.symm, al _ _⟩
theorem one_is (r v t u k x : Int) : ckE r v t u k x = if k = 1 then (if r = x then 0 else 18) else if k = 2 then (if v = x then 0 else 18) else if k = 3 then (if t < x then 20 else 0) else if k = 4 then (if x ≤ t then 20 else 0) else if x ≤ u then 19 else 0 := by
  unfold ckE unl
  simp only [beq_iff_eq, decide_eq_true_eq]
  split
  · rfl
  · split
    · rfl
    · split
      · split <;> split <;> first | rfl | omega
      · split
        · split <;> split <;> first | rfl | omega
        · split <;> split <;> first | rfl | omega
end Go.Proofs.Ytoaleijfpocdjaa
