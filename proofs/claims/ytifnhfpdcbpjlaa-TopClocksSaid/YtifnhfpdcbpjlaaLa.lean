/- Leases: the small functions. -/
import Derived.Test.YtifnhfpdcbpjlaaBb
namespace Go.Proofs.Ytifnhfpdcbpjlaa
open Go.RowKit

theorem wrap_ok (n : Int) (h1 : -9223372036854775808 ≤ n) (h2 : n ≤ 9223372036854775807) : IntKind.i64.wrap n = n := IntWalk.i64_in _ (by omega)
/-- From lo to hi. -/
def inr (n lo hi : Int) : Bool := decide (lo ≤ n) && decide (n ≤ hi)
theorem inr_iff {n lo hi : Int} : inr n lo hi = true ↔ lo ≤ n ∧ n ≤ hi := by unfold inr; simp
theorem inr_no {n lo hi : Int} : inr n lo hi = false ↔ ¬ (lo ≤ n ∧ n ≤ hi) := by rw [← Bool.not_eq_true, inr_iff]
/-- A voter, and a lease. -/
def vtc (f h u : Int) : Array Value := #[.int .i64 f, .int .i64 h, .int .i64 u]
def lsc (h f u : Int) : Array Value := #[.int .i64 h, .int .i64 f, .int .i64 u]
def lsB (h f u now : Int) : Bool := inr h 0 2 && inr f 1 1000000000 && inr u (now + 1) 2000000000
def agB (vf vh vu h f u now : Int) : Bool := lsB h f u now && decide (vf < f) && (decide (vu ≤ now) || vh == h)
def mxi (a b : Int) : Int := if a < b then b else a
def grU (vh vu h u : Int) : Int := if vh = h then mxi u vu else u
def tmB (now : Int) : Bool := inr now 0 1000000000
def voB (vf vh vu h f u now : Int) : Bool := tmB now && agB vf vh vu h f u now
theorem within_any (n lo hi : Int) (w : World) : Calls Try.prog 28 #[.int .i64 n, .int .i64 lo, .int .i64 hi] w fun e w' => e = .returned (.bool (inr n lo hi)) ∧ w = w' := by
  by_cases h1 : lo ≤ n <;> by_cases h2 : n ≤ hi
  all_goals
    have HR := Lib.hid (show inr n lo hi = (decide (lo ≤ n) && decide (n ≤ hi)) from rfl)
    simp only [h1, h2, decide_true, decide_false, Bool.and_self, Bool.and_false, Bool.and_true] at HR
    go_enter Try.func28, Try.ntmps28
    go_wp2
    go_ret
    exact ⟨ret_bool HR.out.symm, rfl⟩
theorem within_q (n lo hi : Int) (b : Bool) (hb : inr n lo hi = b) (w : World) : Calls Try.prog 28 #[.int .i64 n, .int .i64 lo, .int .i64 hi] w fun e w' => e = .returned (.bool b) ∧ w = w' := by
  rw [← hb]; exact within_any n lo hi w
theorem isTime_any (n : Int) (w : World) : Calls Try.prog 11 #[.int .i64 n] w fun e w' => e = .returned (.bool (tmB n)) ∧ w = w' := by
  go_enter Try.func11, Try.ntmps11
  go_wp2_with fail
  refine (within_any n 0 1000000000 _).mono ?_
  rintro e w' ⟨rfl, rfl⟩
  go_wp2
  go_ret
  exact ⟨rfl, rfl⟩
theorem isMajority_any (n m : Int) (w : World) (h1 : 0 ≤ n) (h2 : n ≤ 1000000000) : Calls Try.prog 20 #[.int .i64 n, .int .i64 m] w fun e w' => e = .returned (.bool (decide (m < 2 * n))) ∧ w = w' := by
  go_enter Try.func20, Try.ntmps20
  go_wp2
  go_ret
  exact ⟨rfl, rfl⟩
set_option maxRecDepth 100000 in
set_option maxHeartbeats 1000000 in
theorem isLease_any (h f u now : Int) (w : World) (t1 : 0 ≤ now) (t2 : now ≤ 1000000000) : Calls Try.prog 29 #[.agg (lsc h f u), .int .i64 now] w fun e w' => e = .returned (.bool (lsB h f u now)) ∧ Below w.heap.size w w' := by
  unfold lsc
  cases h1 : inr h 0 2
  · have HR := Lib.hid (show lsB h f u now = false by unfold lsB; rw [h1]; rfl)
    have H1 := Lib.hid h1; clear h1
    go_enter Try.func29, Try.ntmps29
    go_wp2_with (go_at_call 28; refine (within_q h 0 2 _ H1.out _).mono ?_; rintro e w' ⟨rfl, rfl⟩)
    go_ret
    exact ⟨ret_bool HR.out.symm, al _ _⟩
  · cases h2 : inr f 1 1000000000
    · have HR := Lib.hid (show lsB h f u now = false by unfold lsB; rw [h1, h2]; rfl)
      have H1 := Lib.hid h1; clear h1
      have H2 := Lib.hid h2; clear h2
      go_enter Try.func29, Try.ntmps29
      go_wp2_with fail
      refine (within_q h 0 2 _ H1.out _).mono ?_
      rintro e w' ⟨rfl, rfl⟩
      go_wp2_with fail
      refine (within_q f 1 1000000000 _ H2.out _).mono ?_
      rintro e w' ⟨rfl, rfl⟩
      go_wp2
      go_ret
      exact ⟨ret_bool HR.out.symm, al _ _⟩
    · have HR := Lib.hid (show lsB h f u now = inr u (now + 1) 2000000000 by unfold lsB; rw [h1, h2]; rfl)
      have H1 := Lib.hid h1; clear h1
      have H2 := Lib.hid h2; clear h2
      go_enter Try.func29, Try.ntmps29
      go_wp2_with fail
      refine (within_q h 0 2 _ H1.out _).mono ?_
      rintro e w' ⟨rfl, rfl⟩
      go_wp2_with fail
      refine (within_q f 1 1000000000 _ H2.out _).mono ?_
      rintro e w' ⟨rfl, rfl⟩
      go_wp2_with fail
      refine (within_any u (now + 1) 2000000000 _).mono ?_
      rintro e w' ⟨rfl, rfl⟩
      go_wp2
      go_ret
      exact ⟨ret_bool HR.out.symm, al _ _⟩
set_option maxRecDepth 100000 in
set_option maxHeartbeats 2000000 in
theorem agrees_any (vf vh vu h f u now : Int) (w : World) (t1 : 0 ≤ now) (t2 : now ≤ 1000000000) : Calls Try.prog 12 #[.agg (vtc vf vh vu), .agg (lsc h f u), .int .i64 now] w fun e w' => e = .returned (.bool (agB vf vh vu h f u now)) ∧ Below w.heap.size w w' := by
  have HV := Lib.hid ((Cs.new w w.heap.size (vtc vf vh vu) 54 rfl).alloc (.cells (lsc h f u) 24))
  have HL := Lib.hid (Cs.new (w.alloc (.cells (vtc vf vh vu) 54)) (w.heap.size + 1) (lsc h f u) 24 (by simp))
  have HB := Lib.hid (al2 (w := w) (o1 := .cells (vtc vf vh vu) 54) (o2 := .cells (lsc h f u) 24))
  have HC := Lib.hid (isLease_any h f u now ((w.alloc (.cells (vtc vf vh vu) 54)).alloc (.cells (lsc h f u) 24)) t1 t2)
  have T2 := t2
  clear t1 t2
  unfold lsc vtc at *
  cases h1 : lsB h f u now
  · have HR := Lib.hid (show agB vf vh vu h f u now = false by unfold agB; rw [h1]; rfl)
    have H1 := Lib.hid h1; clear h1
    go_enter Try.func12, Try.ntmps12
    go_wp2_with fail
    refine HC.out.mono ?_
    rintro e w1 ⟨rfl, b1⟩
    rw [H1.out]
    have B1 := Lib.hid b1
    clear b1
    go_wp2
    go_ret
    exact ⟨ret_bool HR.out.symm, keep2 B1.out HB.out⟩
  · by_cases h2 : vf < f
    · by_cases h3 : vu ≤ now
      · have HR := Lib.hid (show agB vf vh vu h f u now = true by unfold agB; rw [h1]; simp [h2, h3])
        have H1 := Lib.hid h1; clear h1
        go_enter Try.func12, Try.ntmps12
        go_wp2_with fail
        refine HC.out.mono ?_
        rintro e w1 ⟨rfl, b1⟩
        rw [H1.out]
        have x0 := (HV.out.step b1).c 0 rfl
        have x1 := (HV.out.step b1).c 1 rfl
        have x2 := (HV.out.step b1).c 2 rfl
        have y0 := (HL.out.step b1).c 0 rfl
        have y1 := (HL.out.step b1).c 1 rfl
        have B1 := Lib.hid b1
        clear b1
        go_wp2
        go_ret
        exact ⟨ret_bool HR.out.symm, keep2 B1.out HB.out⟩
      · have HR := Lib.hid (show agB vf vh vu h f u now = (decide (vu ≤ now) || vh == h) by unfold agB; rw [h1]; simp [h2])
        have H1 := Lib.hid h1; clear h1
        go_enter Try.func12, Try.ntmps12
        go_wp2_with fail
        refine HC.out.mono ?_
        rintro e w1 ⟨rfl, b1⟩
        rw [H1.out]
        have x0 := (HV.out.step b1).c 0 rfl
        have x1 := (HV.out.step b1).c 1 rfl
        have x2 := (HV.out.step b1).c 2 rfl
        have y0 := (HL.out.step b1).c 0 rfl
        have y1 := (HL.out.step b1).c 1 rfl
        have B1 := Lib.hid b1
        clear b1
        go_wp2
        go_ret
        exact ⟨ret_bool HR.out.symm, keep2 B1.out HB.out⟩
    · have HR := Lib.hid (show agB vf vh vu h f u now = false by unfold agB; rw [h1]; simp [h2])
      have H1 := Lib.hid h1; clear h1
      go_enter Try.func12, Try.ntmps12
      go_wp2_with fail
      refine HC.out.mono ?_
      rintro e w1 ⟨rfl, b1⟩
      rw [H1.out]
      have x0 := (HV.out.step b1).c 0 rfl
      have x1 := (HV.out.step b1).c 1 rfl
      have x2 := (HV.out.step b1).c 2 rfl
      have y0 := (HL.out.step b1).c 0 rfl
      have y1 := (HL.out.step b1).c 1 rfl
      have B1 := Lib.hid b1
      clear b1
      go_wp2
      go_ret
      exact ⟨ret_bool HR.out.symm, keep2 B1.out HB.out⟩
set_option maxRecDepth 100000 in
set_option maxHeartbeats 2000000 in
theorem granting_any (vf vh vu h f u : Int) (w : World) : Calls Try.prog 13 #[.agg (vtc vf vh vu), .agg (lsc h f u)] w fun e w' => e = .returned (.agg (vtc f h (grU vh vu h u))) ∧ Below w.heap.size w w' := by
  unfold lsc vtc
  by_cases h1 : vh = h
  · by_cases h2 : u < vu
    · have HR := Lib.hid (show grU vh vu h u = vu by unfold grU mxi; rw [if_pos h1, if_pos h2])
      have q1 : (vh == h) = true := by simpa using h1
      clear h1
      go_enter Try.func13, Try.ntmps13
      go_wp2
      exact bodyPost_ret (v := .agg #[.int .i64 f, .int .i64 h, .int .i64 vu]) (by simp [results, Try.results13, go_sem]) rfl ⟨by rw [HR.out], (by repeat (first | with_reducible exact Below.refl _ _ | with_reducible exact Below.refl _ _ | ((with_reducible refine Below.setCell ?_ ?_ _); rotate_left; focus (first | (simp; done) | (simp; omega) | omega)) | ((with_reducible refine Below.alloc ?_ ?_ _); rotate_left; focus (first | (simp; done) | (simp; omega) | omega)) | with_reducible refine Below.trans ?_ (below_drewN' _ _ _) | with_reducible refine Below.trans ?_ (below_drew _ _)))⟩
    · have HR := Lib.hid (show grU vh vu h u = u by unfold grU mxi; rw [if_pos h1, if_neg h2])
      have q1 : (vh == h) = true := by simpa using h1
      clear h1
      go_enter Try.func13, Try.ntmps13
      go_wp2
      exact bodyPost_ret (v := .agg #[.int .i64 f, .int .i64 h, .int .i64 u]) (by simp [results, Try.results13, go_sem]) rfl ⟨by rw [HR.out], (by repeat (first | with_reducible exact Below.refl _ _ | with_reducible exact Below.refl _ _ | ((with_reducible refine Below.setCell ?_ ?_ _); rotate_left; focus (first | (simp; done) | (simp; omega) | omega)) | ((with_reducible refine Below.alloc ?_ ?_ _); rotate_left; focus (first | (simp; done) | (simp; omega) | omega)) | with_reducible refine Below.trans ?_ (below_drewN' _ _ _) | with_reducible refine Below.trans ?_ (below_drew _ _)))⟩
  · have HR := Lib.hid (show grU vh vu h u = u by unfold grU; rw [if_neg h1])
    have q1 : (vh == h) = false := by simpa using h1
    clear h1
    go_enter Try.func13, Try.ntmps13
    go_wp2
    exact bodyPost_ret (v := .agg #[.int .i64 f, .int .i64 h, .int .i64 u]) (by simp [results, Try.results13, go_sem]) rfl ⟨by rw [HR.out], (by repeat (first | with_reducible exact Below.refl _ _ | with_reducible exact Below.refl _ _ | ((with_reducible refine Below.setCell ?_ ?_ _); rotate_left; focus (first | (simp; done) | (simp; omega) | omega)) | ((with_reducible refine Below.alloc ?_ ?_ _); rotate_left; focus (first | (simp; done) | (simp; omega) | omega)) | with_reducible refine Below.trans ?_ (below_drewN' _ _ _) | with_reducible refine Below.trans ?_ (below_drew _ _)))⟩
end Go.Proofs.Ytifnhfpdcbpjlaa
