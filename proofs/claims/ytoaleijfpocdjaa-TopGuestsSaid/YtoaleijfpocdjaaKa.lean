/- Capabilities: the small functions. -/
import Derived.Test.YtoaleijfpocdjaaBb
namespace Go.Proofs.Ytoaleijfpocdjaa
open Go.RowKit

/-- From lo to hi. -/
def inr (n lo hi : Int) : Bool := decide (lo ≤ n) && decide (n ≤ hi)
theorem inr_iff {n lo hi : Int} : inr n lo hi = true ↔ lo ≤ n ∧ n ≤ hi := by unfold inr; simp
theorem inr_no {n lo hi : Int} : inr n lo hi = false ↔ ¬ (lo ≤ n ∧ n ≤ hi) := by rw [← Bool.not_eq_true, inr_iff]
/-- A caveat, a request. -/
def cvB (k v : Int) : Bool := inr k 1 5 && inr v 0 1000000000
def asB (r v x t : Int) : Bool := inr r 0 1000000 && (inr v 0 1000000 && (inr x 0 15 && inr t 0 1000000000))
def akc (r v x t : Int) : Array Value := #[.int .i64 r, .int .i64 v, .int .i64 x, .int .i64 t]
theorem within_any (n lo hi : Int) (w : World) : Calls Try.prog 27 #[.int .i64 n, .int .i64 lo, .int .i64 hi] w fun e w' => e = .returned (.bool (inr n lo hi)) ∧ w = w' := by
  by_cases h1 : lo ≤ n <;> by_cases h2 : n ≤ hi
  all_goals
    have HR := Lib.hid (show inr n lo hi = (decide (lo ≤ n) && decide (n ≤ hi)) from rfl)
    simp only [h1, h2, decide_true, decide_false, Bool.and_self, Bool.and_false, Bool.and_true] at HR
    go_enter Try.func27, Try.ntmps27
    go_wp2
    go_ret
    exact ⟨ret_bool HR.out.symm, rfl⟩
theorem within_q (n lo hi : Int) (b : Bool) (hb : inr n lo hi = b) (w : World) : Calls Try.prog 27 #[.int .i64 n, .int .i64 lo, .int .i64 hi] w fun e w' => e = .returned (.bool b) ∧ w = w' := by
  rw [← hb]; exact within_any n lo hi w
/-- OK if permitted, else the error. -/
def unl (b : Bool) (e : Int) : Int := if b then 0 else e
theorem unless_any (b : Bool) (x : Int) (w : World) : Calls Try.prog 29 #[.bool b, .int .i64 x] w fun e w' => e = .returned (.int .i64 (unl b x)) ∧ w = w' := by
  cases b
  all_goals
    go_enter Try.func29, Try.ntmps29
    go_wp2
    go_ret
    exact ⟨rfl, rfl⟩
set_option maxRecDepth 100000 in
set_option maxHeartbeats 1000000 in
theorem isCaveat_any (k v : Int) (w : World) : Calls Try.prog 37 #[.agg #[.int .i64 k, .int .i64 v]] w fun e w' => e = .returned (.bool (cvB k v)) ∧ Below w.heap.size w w' := by
  cases h0 : inr k 1 5
  · have HR := Lib.hid (show cvB k v = false by unfold cvB; simp [h0])
    have H0 := Lib.hid h0; clear h0
    go_enter Try.func37, Try.ntmps37
    go_wp2_with fail
    refine (within_q k 1 5 _ H0.out _).mono ?_
    rintro e w' ⟨rfl, rfl⟩
    go_wp2
    go_ret
    exact ⟨ret_bool HR.out.symm, al _ _⟩
  · have HR := Lib.hid (show cvB k v = inr v 0 1000000000 by unfold cvB; simp [h0])
    have H0 := Lib.hid h0; clear h0
    go_enter Try.func37, Try.ntmps37
    go_wp2_with fail
    refine (within_q k 1 5 _ H0.out _).mono ?_
    rintro e w' ⟨rfl, rfl⟩
    go_wp2_with fail
    refine (within_any v 0 1000000000 _).mono ?_
    rintro e w' ⟨rfl, rfl⟩
    go_wp2
    go_ret
    exact ⟨ret_bool HR.out.symm, al _ _⟩
set_option maxRecDepth 100000 in
set_option maxHeartbeats 1000000 in
theorem isAsk_any (r v x t : Int) (w : World) : Calls Try.prog 26 #[.agg #[.int .i64 r, .int .i64 v, .int .i64 x, .int .i64 t]] w fun e w' => e = .returned (.bool (asB r v x t)) ∧ Below w.heap.size w w' := by
  cases h0 : inr r 0 1000000
  · have HR := Lib.hid (show asB r v x t = false by unfold asB; simp [h0])
    have H0 := Lib.hid h0; clear h0
    go_enter Try.func26, Try.ntmps26
    go_wp2_with fail
    refine (within_q r 0 1000000 _ H0.out _).mono ?_
    rintro e w' ⟨rfl, rfl⟩
    go_wp2
    go_ret
    exact ⟨ret_bool HR.out.symm, al _ _⟩
  · cases h1 : inr v 0 1000000
    · have HR := Lib.hid (show asB r v x t = false by unfold asB; simp [h0, h1])
      have H0 := Lib.hid h0; clear h0
      have H1 := Lib.hid h1; clear h1
      go_enter Try.func26, Try.ntmps26
      go_wp2_with fail
      refine (within_q r 0 1000000 _ H0.out _).mono ?_
      rintro e w' ⟨rfl, rfl⟩
      go_wp2_with fail
      refine (within_q v 0 1000000 _ H1.out _).mono ?_
      rintro e w' ⟨rfl, rfl⟩
      go_wp2
      go_ret
      exact ⟨ret_bool HR.out.symm, al _ _⟩
    · cases h2 : inr x 0 15
      · have HR := Lib.hid (show asB r v x t = false by unfold asB; simp [h0, h1, h2])
        have H0 := Lib.hid h0; clear h0
        have H1 := Lib.hid h1; clear h1
        have H2 := Lib.hid h2; clear h2
        go_enter Try.func26, Try.ntmps26
        go_wp2_with fail
        refine (within_q r 0 1000000 _ H0.out _).mono ?_
        rintro e w' ⟨rfl, rfl⟩
        go_wp2_with fail
        refine (within_q v 0 1000000 _ H1.out _).mono ?_
        rintro e w' ⟨rfl, rfl⟩
        go_wp2_with fail
        refine (within_q x 0 15 _ H2.out _).mono ?_
        rintro e w' ⟨rfl, rfl⟩
        go_wp2
        go_ret
        exact ⟨ret_bool HR.out.symm, al _ _⟩
      · have HR := Lib.hid (show asB r v x t = inr t 0 1000000000 by unfold asB; simp [h0, h1, h2])
        have H0 := Lib.hid h0; clear h0
        have H1 := Lib.hid h1; clear h1
        have H2 := Lib.hid h2; clear h2
        go_enter Try.func26, Try.ntmps26
        go_wp2_with fail
        refine (within_q r 0 1000000 _ H0.out _).mono ?_
        rintro e w' ⟨rfl, rfl⟩
        go_wp2_with fail
        refine (within_q v 0 1000000 _ H1.out _).mono ?_
        rintro e w' ⟨rfl, rfl⟩
        go_wp2_with fail
        refine (within_q x 0 15 _ H2.out _).mono ?_
        rintro e w' ⟨rfl, rfl⟩
        go_wp2_with fail
        refine (within_any t 0 1000000000 _).mono ?_
        rintro e w' ⟨rfl, rfl⟩
        go_wp2
        go_ret
        exact ⟨ret_bool HR.out.symm, al _ _⟩
theorem isCap1_any (k v : Int) (w : World) : Calls Try.prog 44 #[.agg #[.int .i64 k, .int .i64 v]] w fun e w' => e = .returned (.bool (!cvB k v)) ∧ Below w.heap.size w w' := by
  go_enter Try.func44, Try.ntmps44
  go_wp2_with fail
  refine (isCaveat_any k v _).mono ?_
  rintro e w1 ⟨rfl, b1⟩
  have B1 := Lib.hid (keep2 b1 (al w (.cells #[.int .i64 k, .int .i64 v] 24)))
  clear b1
  go_wp2
  go_ret
  exact ⟨rfl, B1.out⟩
end Go.Proofs.Ytoaleijfpocdjaa
