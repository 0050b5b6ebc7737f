/- Capabilities: the checks of 'Permits'. -/
import Derived.Test.YtoaleijfpocdjaaKg
namespace Go.Proofs.Ytoaleijfpocdjaa
open Go.RowKit

/-- What a caveat's check tells of a request. -/
def ckE (r v t u : Int) (k x : Int) : Int :=
  if k = 1 then unl (r == x) 18 else if k = 2 then unl (v == x) 18 else if k = 3 then unl (decide (x ≤ t)) 20 else if k = 4 then unl (decide (t < x)) 20 else unl (decide (u < x)) 19
/-- The first error. -/
def prL (r v t u : Int) : List Cv → Int
  | [] => 0
  | c :: l => if ckE r v t u c.k c.v = 0 then prL r v t u l else ckE r v t u c.k c.v
theorem unless_q (b : Bool) (x : Int) (w : World) (n : Nat) : Calls Try.prog 29 #[.bool b, .int .i64 x] (w.drewN n) fun e w' => e = .returned (.int .i64 (unl b x)) ∧ w' = w.drewN n := (unless_any b x _).mono fun _ _ h => ⟨h.1, h.2.symm⟩
theorem p1_any (r v x t z : Int) (B : Nat) (w : World) (hA : Cs w B (akc r v x t)) : Calls Try.prog 28 #[.int .i64 z, .pointer (some ⟨B, 0, none⟩)] w fun e w' => e = .returned (.int .i64 (unl (r == z) 18)) ∧ w = w' := by
  unfold akc at hA
  have x0 := hA.c 0 rfl
  have xz := hA.2.2
  clear hA
  go_enter Try.func28, Try.ntmps28
  go_wp2_with fail
  refine (unless_any _ 18 _).mono ?_
  rintro e w1 ⟨rfl, rfl⟩
  go_wp2
  go_ret
  exact ⟨rfl, rfl⟩
theorem p1_q (r v x t z : Int) (B : Nat) (w : World) (n : Nat) (hA : Cs w B (akc r v x t)) : Calls Try.prog 28 #[.int .i64 z, .pointer (some ⟨B, 0, none⟩)] (w.drewN n) fun e w' => e = .returned (.int .i64 (unl (r == z) 18)) ∧ w' = w.drewN n :=
  (p1_any r v x t z B _ (hA.step (below_drewN' _ _ _))).mono fun _ _ h => ⟨h.1, h.2.symm⟩
theorem p2_any (r v x t z : Int) (B : Nat) (w : World) (hA : Cs w B (akc r v x t)) : Calls Try.prog 30 #[.int .i64 z, .pointer (some ⟨B, 0, none⟩)] w fun e w' => e = .returned (.int .i64 (unl (v == z) 18)) ∧ w = w' := by
  unfold akc at hA
  have x0 := hA.c 1 rfl
  have xz := hA.2.2
  clear hA
  go_enter Try.func30, Try.ntmps30
  go_wp2_with fail
  refine (unless_any _ 18 _).mono ?_
  rintro e w1 ⟨rfl, rfl⟩
  go_wp2
  go_ret
  exact ⟨rfl, rfl⟩
theorem p2_q (r v x t z : Int) (B : Nat) (w : World) (n : Nat) (hA : Cs w B (akc r v x t)) : Calls Try.prog 30 #[.int .i64 z, .pointer (some ⟨B, 0, none⟩)] (w.drewN n) fun e w' => e = .returned (.int .i64 (unl (v == z) 18)) ∧ w' = w.drewN n :=
  (p2_any r v x t z B _ (hA.step (below_drewN' _ _ _))).mono fun _ _ h => ⟨h.1, h.2.symm⟩
theorem p3_any (r v x t z : Int) (B : Nat) (w : World) (hA : Cs w B (akc r v x t)) : Calls Try.prog 31 #[.int .i64 z, .pointer (some ⟨B, 0, none⟩)] w fun e w' => e = .returned (.int .i64 (unl (decide (z ≤ t)) 20)) ∧ w = w' := by
  unfold akc at hA
  have x0 := hA.c 3 rfl
  have xz := hA.2.2
  clear hA
  go_enter Try.func31, Try.ntmps31
  go_wp2_with fail
  refine (unless_any _ 20 _).mono ?_
  rintro e w1 ⟨rfl, rfl⟩
  go_wp2
  go_ret
  exact ⟨rfl, rfl⟩
theorem p3_q (r v x t z : Int) (B : Nat) (w : World) (n : Nat) (hA : Cs w B (akc r v x t)) : Calls Try.prog 31 #[.int .i64 z, .pointer (some ⟨B, 0, none⟩)] (w.drewN n) fun e w' => e = .returned (.int .i64 (unl (decide (z ≤ t)) 20)) ∧ w' = w.drewN n :=
  (p3_any r v x t z B _ (hA.step (below_drewN' _ _ _))).mono fun _ _ h => ⟨h.1, h.2.symm⟩
theorem p4_any (r v x t z : Int) (B : Nat) (w : World) (hA : Cs w B (akc r v x t)) : Calls Try.prog 32 #[.int .i64 z, .pointer (some ⟨B, 0, none⟩)] w fun e w' => e = .returned (.int .i64 (unl (decide (t < z)) 20)) ∧ w = w' := by
  unfold akc at hA
  have x0 := hA.c 3 rfl
  have xz := hA.2.2
  clear hA
  go_enter Try.func32, Try.ntmps32
  go_wp2_with fail
  refine (unless_any _ 20 _).mono ?_
  rintro e w1 ⟨rfl, rfl⟩
  go_wp2
  go_ret
  exact ⟨rfl, rfl⟩
theorem p4_q (r v x t z : Int) (B : Nat) (w : World) (n : Nat) (hA : Cs w B (akc r v x t)) : Calls Try.prog 32 #[.int .i64 z, .pointer (some ⟨B, 0, none⟩)] (w.drewN n) fun e w' => e = .returned (.int .i64 (unl (decide (t < z)) 20)) ∧ w' = w.drewN n :=
  (p4_any r v x t z B _ (hA.step (below_drewN' _ _ _))).mono fun _ _ h => ⟨h.1, h.2.symm⟩
theorem p5_any (u z : Int) (B : Nat) (w : World) (hA : Cs w B #[.int .i64 u]) : Calls Try.prog 33 #[.int .i64 z, .pointer (some ⟨B, 0, none⟩)] w fun e w' => e = .returned (.int .i64 (unl (decide (u < z)) 19)) ∧ w = w' := by
  have x0 := hA.c 0 rfl
  have xz := hA.2.2
  clear hA
  go_enter Try.func33, Try.ntmps33
  go_wp2_with fail
  refine (unless_any _ 19 _).mono ?_
  rintro e w1 ⟨rfl, rfl⟩
  go_wp2
  go_ret
  exact ⟨rfl, rfl⟩
theorem p5_q (u z : Int) (B : Nat) (w : World) (n : Nat) (hA : Cs w B #[.int .i64 u]) : Calls Try.prog 33 #[.int .i64 z, .pointer (some ⟨B, 0, none⟩)] (w.drewN n) fun e w' => e = .returned (.int .i64 (unl (decide (u < z)) 19)) ∧ w' = w.drewN n :=
  (p5_any u z B _ (hA.step (below_drewN' _ _ _))).mono fun _ _ h => ⟨h.1, h.2.symm⟩
end Go.Proofs.Ytoaleijfpocdjaa
