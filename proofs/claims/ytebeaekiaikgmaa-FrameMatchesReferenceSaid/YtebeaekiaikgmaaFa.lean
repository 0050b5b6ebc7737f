/- Frames: 'isTag', 'Valid'. -/
import Derived.Test.YtebeaekiaikgmaaCt
import Derived.Test.YtebeaekiaikgmaaBb
namespace Go.Proofs.Ytebeaekiaikgmaa
open Go.RowKit

/-- A frame. -/
structure Fr where
  a : Int
  b : Int
  c : Int
  d : Int
  l : List Int
  t : Int
def Fr.v (f : Fr) (sl : Value) : Value := .agg #[.int .i64 f.a, .int .i64 f.b, .int .i64 f.c, .int .i64 f.d, sl, .int .i64 f.t]
def tgB (t : Int) : Bool := decide (0 ≤ t) && decide (t ≤ 2147483646)
def fdB (x : Int) : Bool := !(decide (x < 0) || decide (1000000 < x))
def bdB (x : Int) : Bool := decide (x < -1000000000) || decide (1000000000 < x)
def vaB (a b c d : Int) (l : List Int) (t : Int) : Bool := (fdB a && (fdB b && (fdB c && fdB d))) && (!l.any bdB && (decide (l.length ≤ 32) && tgB t))
theorem isTag_any (n : Int) (w : World) : Calls Try.prog 34 #[.int .i64 n] w fun e w' => e = .returned (.bool (tgB n)) ∧ w = w' := by
  by_cases h : 0 ≤ n
  · by_cases h2 : n ≤ 2147483646
    · have HE := Lib.hid (show tgB n = true by unfold tgB; simp [h, h2])
      have g1 : decide (0 ≤ n) = true := by simpa using h
      have g2 : decide (n ≤ 2147483646) = true := by simpa using h2
      go_enter Try.func34, Try.ntmps34
      go_wp2
      go_ret
      exact ⟨ret_bool (by rw [HE.out]), rfl⟩
    · have HE := Lib.hid (show tgB n = false by unfold tgB; simp [h]; omega)
      have g1 : decide (0 ≤ n) = true := by simpa using h
      have g2 : decide (n ≤ 2147483646) = false := by simpa using h2
      go_enter Try.func34, Try.ntmps34
      go_wp2
      go_ret
      exact ⟨ret_bool (by rw [HE.out]), rfl⟩
  · have HE := Lib.hid (show tgB n = false by unfold tgB; simp [h])
    have g1 : decide (0 ≤ n) = false := by simpa using h
    go_enter Try.func34, Try.ntmps34
    go_wp2
    go_ret
    exact ⟨ret_bool (by rw [HE.out]), rfl⟩
theorem bd_hit {l : List Int} {k : Nat} (h : k < l.length) (hb : bdB (l.getD k 0) = true) : l.any bdB = true := by
  rw [List.any_eq_true]
  exact ⟨l.getD k 0, List.mem_of_getElem? (getD_of h), hb⟩
theorem bd_none {l : List Int} (h : ∀ j, j < l.length → bdB (l.getD j 0) = false) : l.any bdB = false := by
  rw [List.any_eq_false]
  intro x hx
  obtain ⟨j, hj, rfl⟩ := List.getElem_of_mem hx
  have := h j hj
  rw [show l.getD j 0 = l[j] by simp [hj]] at this
  simp [this]
theorem fd_no {x : Int} (h : fdB x = true) : 0 ≤ x ∧ x ≤ 1000000 := by
  unfold fdB at h
  simp at h
  omega
theorem fd_yes {x : Int} (h : 0 ≤ x) (h2 : x ≤ 1000000) : fdB x = true := by
  unfold fdB
  simp
  omega
set_option maxRecDepth 100000 in
set_option maxHeartbeats 4000000 in
theorem valid_bad (a b c d : Int) (sl : Value) (l : List Int) (t : Int) (w : World) (h : IntsAt w sl l) (hv : (fdB a && (fdB b && (fdB c && fdB d))) = false) : Calls Try.prog 17 #[.agg #[.int .i64 a, .int .i64 b, .int .i64 c, .int .i64 d, sl, .int .i64 t]] w fun e w' => e = .returned (.bool false) ∧ Below w.heap.size w w' := by
  have h2 := h
  obtain ⟨sa, sc, rfl, hm, -⟩ := h
  have HC0 := Lib.hid (Cs.new w w.heap.size #[.int .i64 a, .int .i64 b, .int .i64 c, .int .i64 d, .slice sa l.length sc, .int .i64 t] 24 rfl)
  have HB0 := Lib.hid (al w (.cells #[.int .i64 a, .int .i64 b, .int .i64 c, .int .i64 d, .slice sa l.length sc, .int .i64 t] 24))
  have HL := Lib.hid (h2.step HB0.out)
  have x0 := HC0.out.c 0 rfl
  have x1 := HC0.out.c 1 rfl
  have x2 := HC0.out.c 2 rfl
  have x3 := HC0.out.c 3 rfl
  have x4 := HC0.out.c 4 rfl
  have x5 := HC0.out.c 5 rfl
  have i0 : ∀ w, (Instr.index 68 (.agg #[.int .i64 a, .int .i64 b, .int .i64 c, .int .i64 d]) (.int .i64 0)).run Try.prog w = .ok (.int .i64 a) w := fun _ => by kernel_rfl
  have i1 : ∀ w, (Instr.index 68 (.agg #[.int .i64 a, .int .i64 b, .int .i64 c, .int .i64 d]) (.int .i64 1)).run Try.prog w = .ok (.int .i64 b) w := fun _ => by kernel_rfl
  have i2 : ∀ w, (Instr.index 68 (.agg #[.int .i64 a, .int .i64 b, .int .i64 c, .int .i64 d]) (.int .i64 2)).run Try.prog w = .ok (.int .i64 c) w := fun _ => by kernel_rfl
  have i3 : ∀ w, (Instr.index 68 (.agg #[.int .i64 a, .int .i64 b, .int .i64 c, .int .i64 d]) (.int .i64 3)).run Try.prog w = .ok (.int .i64 d) w := fun _ => by kernel_rfl
  have HV := Lib.hid hv
  clear hv h2 hm HL
  go_enter Try.func17, Try.ntmps17
  go_wp2_with fail
  clear x0 x1 x2 x3 x4 x5
  go_loop [16] (fun i => ∃ k : Nat, k ≤ 4 ∧ i = .int .i64 k ∧ Hid (∀ j, j < k → fdB (([a, b, c, d] : List Int).getD j 0) = true)) (fun i => 4 - (intOf i).toNat)
  case atStart => exact ⟨0, by omega, rfl, Lib.hid (fun j h => by omega)⟩
  case round =>
    obtain ⟨k, hk, rfl, HK⟩ := hrel
    obtain rfl | rfl | rfl | rfl | rfl : k = 0 ∨ k = 1 ∨ k = 2 ∨ k = 3 ∨ k = 4 := by omega
    · have HN := Lib.hid (show fdB a = true → ∀ j, j < 0 + 1 → fdB (([a, b, c, d] : List Int).getD j 0) = true from fun hx j h => by
        by_cases e2 : j = 0
        · subst e2; exact hx
        · exact HK.out j (by omega))
      by_cases h1 : a < 0
      · have g1 : decide (a < 0) = true := by simpa using h1
        have HE := Lib.hid (show fdB a = false by unfold fdB; rw [g1]; rfl)
        go_wp2
        go_ret
        exact ⟨rfl, HB0.out⟩
      · have g1 : decide (a < 0) = false := by simpa using h1
        by_cases h2 : 1000000 < a
        · have g2 : decide (a > 1000000) = true := by simpa using h2
          have g3 : decide (1000000 < a) = true := by simpa using h2
          have HE := Lib.hid (show fdB a = false by unfold fdB; rw [g3]; simp)
          go_wp2
          go_ret
          exact ⟨rfl, HB0.out⟩
        · have g2 : decide (a > 1000000) = false := by simpa using h2
          have g3 : decide (1000000 < a) = false := by simpa using h2
          have HE := Lib.hid (show fdB a = true by unfold fdB; rw [g1, g3]; rfl)
          clear h1 h2
          go_wp2
          go_round
          case rel => exact ⟨0 + 1, by omega, rfl, Lib.hid (HN.out HE.out)⟩
          case measure => simp [intOf]
    · have HN := Lib.hid (show fdB b = true → ∀ j, j < 1 + 1 → fdB (([a, b, c, d] : List Int).getD j 0) = true from fun hx j h => by
        by_cases e2 : j = 1
        · subst e2; exact hx
        · exact HK.out j (by omega))
      by_cases h1 : b < 0
      · have g1 : decide (b < 0) = true := by simpa using h1
        have HE := Lib.hid (show fdB b = false by unfold fdB; rw [g1]; rfl)
        go_wp2
        go_ret
        exact ⟨rfl, HB0.out⟩
      · have g1 : decide (b < 0) = false := by simpa using h1
        by_cases h2 : 1000000 < b
        · have g2 : decide (b > 1000000) = true := by simpa using h2
          have g3 : decide (1000000 < b) = true := by simpa using h2
          have HE := Lib.hid (show fdB b = false by unfold fdB; rw [g3]; simp)
          go_wp2
          go_ret
          exact ⟨rfl, HB0.out⟩
        · have g2 : decide (b > 1000000) = false := by simpa using h2
          have g3 : decide (1000000 < b) = false := by simpa using h2
          have HE := Lib.hid (show fdB b = true by unfold fdB; rw [g1, g3]; rfl)
          clear h1 h2
          go_wp2
          go_round
          case rel => exact ⟨1 + 1, by omega, rfl, Lib.hid (HN.out HE.out)⟩
          case measure => simp [intOf]
    · have HN := Lib.hid (show fdB c = true → ∀ j, j < 2 + 1 → fdB (([a, b, c, d] : List Int).getD j 0) = true from fun hx j h => by
        by_cases e2 : j = 2
        · subst e2; exact hx
        · exact HK.out j (by omega))
      by_cases h1 : c < 0
      · have g1 : decide (c < 0) = true := by simpa using h1
        have HE := Lib.hid (show fdB c = false by unfold fdB; rw [g1]; rfl)
        go_wp2
        go_ret
        exact ⟨rfl, HB0.out⟩
      · have g1 : decide (c < 0) = false := by simpa using h1
        by_cases h2 : 1000000 < c
        · have g2 : decide (c > 1000000) = true := by simpa using h2
          have g3 : decide (1000000 < c) = true := by simpa using h2
          have HE := Lib.hid (show fdB c = false by unfold fdB; rw [g3]; simp)
          go_wp2
          go_ret
          exact ⟨rfl, HB0.out⟩
        · have g2 : decide (c > 1000000) = false := by simpa using h2
          have g3 : decide (1000000 < c) = false := by simpa using h2
          have HE := Lib.hid (show fdB c = true by unfold fdB; rw [g1, g3]; rfl)
          clear h1 h2
          go_wp2
          go_round
          case rel => exact ⟨2 + 1, by omega, rfl, Lib.hid (HN.out HE.out)⟩
          case measure => simp [intOf]
    · have HN := Lib.hid (show fdB d = true → ∀ j, j < 3 + 1 → fdB (([a, b, c, d] : List Int).getD j 0) = true from fun hx j h => by
        by_cases e2 : j = 3
        · subst e2; exact hx
        · exact HK.out j (by omega))
      by_cases h1 : d < 0
      · have g1 : decide (d < 0) = true := by simpa using h1
        have HE := Lib.hid (show fdB d = false by unfold fdB; rw [g1]; rfl)
        go_wp2
        go_ret
        exact ⟨rfl, HB0.out⟩
      · have g1 : decide (d < 0) = false := by simpa using h1
        by_cases h2 : 1000000 < d
        · have g2 : decide (d > 1000000) = true := by simpa using h2
          have g3 : decide (1000000 < d) = true := by simpa using h2
          have HE := Lib.hid (show fdB d = false by unfold fdB; rw [g3]; simp)
          go_wp2
          go_ret
          exact ⟨rfl, HB0.out⟩
        · have g2 : decide (d > 1000000) = false := by simpa using h2
          have g3 : decide (1000000 < d) = false := by simpa using h2
          have HE := Lib.hid (show fdB d = true by unfold fdB; rw [g1, g3]; rfl)
          clear h1 h2
          go_wp2
          go_round
          case rel => exact ⟨3 + 1, by omega, rfl, Lib.hid (HN.out HE.out)⟩
          case measure => simp [intOf]
    · exfalso
      have h := HV.out
      rw [show fdB a = true from HK.out 0 (by omega), show fdB b = true from HK.out 1 (by omega), show fdB c = true from HK.out 2 (by omega), show fdB d = true from HK.out 3 (by omega)] at h
      cases h
set_option maxRecDepth 100000 in
set_option maxHeartbeats 4000000 in
theorem valid_ok (a b c d : Int) (sl : Value) (l : List Int) (t : Int) (w : World) (h : IntsAt w sl l) (hv : fdB a = true ∧ fdB b = true ∧ fdB c = true ∧ fdB d = true) : Calls Try.prog 17 #[.agg #[.int .i64 a, .int .i64 b, .int .i64 c, .int .i64 d, sl, .int .i64 t]] w fun e w' => e = .returned (.bool (!l.any bdB && (decide (l.length ≤ 32) && tgB t))) ∧ Below w.heap.size w w' := by
  have h2 := h
  obtain ⟨sa, sc, rfl, hm, -⟩ := h
  have HC0 := Lib.hid (Cs.new w w.heap.size #[.int .i64 a, .int .i64 b, .int .i64 c, .int .i64 d, .slice sa l.length sc, .int .i64 t] 24 rfl)
  have HB0 := Lib.hid (al w (.cells #[.int .i64 a, .int .i64 b, .int .i64 c, .int .i64 d, .slice sa l.length sc, .int .i64 t] 24))
  have HL := Lib.hid (h2.step HB0.out)
  have x0 := HC0.out.c 0 rfl
  have x1 := HC0.out.c 1 rfl
  have x2 := HC0.out.c 2 rfl
  have x3 := HC0.out.c 3 rfl
  have x4 := HC0.out.c 4 rfl
  have x5 := HC0.out.c 5 rfl
  have i0 : ∀ w, (Instr.index 68 (.agg #[.int .i64 a, .int .i64 b, .int .i64 c, .int .i64 d]) (.int .i64 0)).run Try.prog w = .ok (.int .i64 a) w := fun _ => by kernel_rfl
  have i1 : ∀ w, (Instr.index 68 (.agg #[.int .i64 a, .int .i64 b, .int .i64 c, .int .i64 d]) (.int .i64 1)).run Try.prog w = .ok (.int .i64 b) w := fun _ => by kernel_rfl
  have i2 : ∀ w, (Instr.index 68 (.agg #[.int .i64 a, .int .i64 b, .int .i64 c, .int .i64 d]) (.int .i64 2)).run Try.prog w = .ok (.int .i64 c) w := fun _ => by kernel_rfl
  have i3 : ∀ w, (Instr.index 68 (.agg #[.int .i64 a, .int .i64 b, .int .i64 c, .int .i64 d]) (.int .i64 3)).run Try.prog w = .ok (.int .i64 d) w := fun _ => by kernel_rfl
  have HV := Lib.hid hv
  unfold maxLen at hm
  clear hv h2
  go_enter Try.func17, Try.ntmps17
  go_wp2_with fail
  clear x0 x1 x2 x3
  go_loop [16] (fun i => ∃ k : Nat, k ≤ 4 ∧ i = .int .i64 k ∧ Hid (∀ j, j < k → fdB (([a, b, c, d] : List Int).getD j 0) = true)) (fun i => 4 - (intOf i).toNat)
  case atStart => exact ⟨0, by omega, rfl, Lib.hid (fun j h => by omega)⟩
  case round =>
    obtain ⟨k, hk, rfl, HK⟩ := hrel
    obtain rfl | rfl | rfl | rfl | rfl : k = 0 ∨ k = 1 ∨ k = 2 ∨ k = 3 ∨ k = 4 := by omega
    · have HN := Lib.hid (show fdB a = true → ∀ j, j < 0 + 1 → fdB (([a, b, c, d] : List Int).getD j 0) = true from fun hx j h => by
        by_cases e2 : j = 0
        · subst e2; exact hx
        · exact HK.out j (by omega))
      by_cases h1 : a < 0
      · have g1 : decide (a < 0) = true := by simpa using h1
        have HE := Lib.hid (show fdB a = false by unfold fdB; rw [g1]; rfl)
        have h9 := HV.out.1
        rw [HE.out] at h9
        cases h9
      · have g1 : decide (a < 0) = false := by simpa using h1
        by_cases h2 : 1000000 < a
        · have g2 : decide (a > 1000000) = true := by simpa using h2
          have g3 : decide (1000000 < a) = true := by simpa using h2
          have HE := Lib.hid (show fdB a = false by unfold fdB; rw [g3]; simp)
          have h9 := HV.out.1
          rw [HE.out] at h9
          cases h9
        · have g2 : decide (a > 1000000) = false := by simpa using h2
          have g3 : decide (1000000 < a) = false := by simpa using h2
          have HE := Lib.hid (show fdB a = true by unfold fdB; rw [g1, g3]; rfl)
          clear h1 h2
          go_wp2
          go_round
          case rel => exact ⟨0 + 1, by omega, rfl, Lib.hid (HN.out HE.out)⟩
          case measure => simp [intOf]
    · have HN := Lib.hid (show fdB b = true → ∀ j, j < 1 + 1 → fdB (([a, b, c, d] : List Int).getD j 0) = true from fun hx j h => by
        by_cases e2 : j = 1
        · subst e2; exact hx
        · exact HK.out j (by omega))
      by_cases h1 : b < 0
      · have g1 : decide (b < 0) = true := by simpa using h1
        have HE := Lib.hid (show fdB b = false by unfold fdB; rw [g1]; rfl)
        have h9 := HV.out.2.1
        rw [HE.out] at h9
        cases h9
      · have g1 : decide (b < 0) = false := by simpa using h1
        by_cases h2 : 1000000 < b
        · have g2 : decide (b > 1000000) = true := by simpa using h2
          have g3 : decide (1000000 < b) = true := by simpa using h2
          have HE := Lib.hid (show fdB b = false by unfold fdB; rw [g3]; simp)
          have h9 := HV.out.2.1
          rw [HE.out] at h9
          cases h9
        · have g2 : decide (b > 1000000) = false := by simpa using h2
          have g3 : decide (1000000 < b) = false := by simpa using h2
          have HE := Lib.hid (show fdB b = true by unfold fdB; rw [g1, g3]; rfl)
          clear h1 h2
          go_wp2
          go_round
          case rel => exact ⟨1 + 1, by omega, rfl, Lib.hid (HN.out HE.out)⟩
          case measure => simp [intOf]
    · have HN := Lib.hid (show fdB c = true → ∀ j, j < 2 + 1 → fdB (([a, b, c, d] : List Int).getD j 0) = true from fun hx j h => by
        by_cases e2 : j = 2
        · subst e2; exact hx
        · exact HK.out j (by omega))
      by_cases h1 : c < 0
      · have g1 : decide (c < 0) = true := by simpa using h1
        have HE := Lib.hid (show fdB c = false by unfold fdB; rw [g1]; rfl)
        have h9 := HV.out.2.2.1
        rw [HE.out] at h9
        cases h9
      · have g1 : decide (c < 0) = false := by simpa using h1
        by_cases h2 : 1000000 < c
        · have g2 : decide (c > 1000000) = true := by simpa using h2
          have g3 : decide (1000000 < c) = true := by simpa using h2
          have HE := Lib.hid (show fdB c = false by unfold fdB; rw [g3]; simp)
          have h9 := HV.out.2.2.1
          rw [HE.out] at h9
          cases h9
        · have g2 : decide (c > 1000000) = false := by simpa using h2
          have g3 : decide (1000000 < c) = false := by simpa using h2
          have HE := Lib.hid (show fdB c = true by unfold fdB; rw [g1, g3]; rfl)
          clear h1 h2
          go_wp2
          go_round
          case rel => exact ⟨2 + 1, by omega, rfl, Lib.hid (HN.out HE.out)⟩
          case measure => simp [intOf]
    · have HN := Lib.hid (show fdB d = true → ∀ j, j < 3 + 1 → fdB (([a, b, c, d] : List Int).getD j 0) = true from fun hx j h => by
        by_cases e2 : j = 3
        · subst e2; exact hx
        · exact HK.out j (by omega))
      by_cases h1 : d < 0
      · have g1 : decide (d < 0) = true := by simpa using h1
        have HE := Lib.hid (show fdB d = false by unfold fdB; rw [g1]; rfl)
        have h9 := HV.out.2.2.2
        rw [HE.out] at h9
        cases h9
      · have g1 : decide (d < 0) = false := by simpa using h1
        by_cases h2 : 1000000 < d
        · have g2 : decide (d > 1000000) = true := by simpa using h2
          have g3 : decide (1000000 < d) = true := by simpa using h2
          have HE := Lib.hid (show fdB d = false by unfold fdB; rw [g3]; simp)
          have h9 := HV.out.2.2.2
          rw [HE.out] at h9
          cases h9
        · have g2 : decide (d > 1000000) = false := by simpa using h2
          have g3 : decide (1000000 < d) = false := by simpa using h2
          have HE := Lib.hid (show fdB d = true by unfold fdB; rw [g1, g3]; rfl)
          clear h1 h2
          go_wp2
          go_round
          case rel => exact ⟨3 + 1, by omega, rfl, Lib.hid (HN.out HE.out)⟩
          case measure => simp [intOf]
    · clear HK hk i0 i1 i2 i3
      go_wp2_with fail
      obtain ⟨W, hW⟩ : ∃ z, w.alloc (.cells #[.int .i64 a, .int .i64 b, .int .i64 c, .int .i64 d, .slice sa l.length sc, .int .i64 t] 24) = z := ⟨_, rfl⟩
      rw [hW] at HC0 HB0 HL x4 x5 ⊢
      clear hW
      go_loop [29] (fun i => ∃ k : Nat, k ≤ l.length ∧ i = .int .i64 k ∧ Hid (∀ j, j < k → bdB (l.getD j 0) = false)) (fun i => l.length - (intOf i).toNat)
      case atStart => exact ⟨0, by omega, rfl, Lib.hid (fun j h => by omega)⟩
      case round =>
        obtain ⟨k, hk, rfl, HK⟩ := hrel
        by_cases hlt : k < l.length
        · have t1 : (k : Int) < l.length := by omega
          have t2 : decide ((k : Int) < l.length) = true := by simp; omega
          have t3 : (0 : Int) ≤ k := by omega
          have hkw : wrap64 ((k : Int) + 1) = k + 1 := IntWalk.wrap64_in _ (by omega)
          have HK8 := Lib.hid (show ((k + 1 : Nat) : Int) = (k : Int) + 1 by omega)
          obtain ⟨a2, cap2, hva, -, hcs⟩ := HL.out
          obtain ⟨rfl, rfl⟩ : sa = a2 ∧ sc = cap2 := by simpa using hva
          obtain ⟨bk, off, rfl, hcs2⟩ := hcs (by intro h; rw [h] at hlt; simp at hlt)
          have y0 := hcs2 k _ (getD_of hlt)
          have HH := Lib.hid (bd_hit hlt)
          have HN := Lib.hid (show bdB (l.getD k 0) = false → ∀ j, j < k + 1 → bdB (l.getD j 0) = false from fun hx j h => by
            by_cases e : j = k
            · subst e; exact hx
            · exact HK.out j (by omega))
          clear hcs hcs2 hva hk HL
          generalize l.getD k 0 = x at *
          by_cases h1 : x < -1000000000
          · have g1 : decide (x < -1000000000) = true := by simpa using h1
            have HE := Lib.hid (HH.out (show bdB x = true by unfold bdB; rw [g1]; rfl))
            go_wp2
            go_ret
            exact ⟨ret_bool (by rw [HE.out]; rfl), HB0.out⟩
          · have g1 : decide (x < -1000000000) = false := by simpa using h1
            by_cases h2 : 1000000000 < x
            · have g2 : decide (x > 1000000000) = true := by simpa using h2
              have g3 : decide (1000000000 < x) = true := by simpa using h2
              have HE := Lib.hid (HH.out (show bdB x = true by unfold bdB; rw [g3]; simp))
              go_wp2
              go_ret
              exact ⟨ret_bool (by rw [HE.out]; rfl), HB0.out⟩
            · have g2 : decide (x > 1000000000) = false := by simpa using h2
              have g3 : decide (1000000000 < x) = false := by simpa using h2
              have HE := Lib.hid (HN.out (show bdB x = false by unfold bdB; rw [g1, g3]; rfl))
              clear h1 h2
              go_wp2
              go_round
              case rel => exact ⟨k + 1, hlt, by first | rw [hkw, HK8.out] | rw [HK8.out], HE⟩
              case measure => have h3 := HK8.out; (first | rw [hkw] | skip); simp [intOf]; omega
        · obtain rfl : k = l.length := by omega
          have t2 : decide ((l.length : Int) < l.length) = false := by simp
          have HE := Lib.hid (bd_none (l := l) HK.out)
          clear HK hk HL
          by_cases h3 : l.length ≤ 32
          · have g1 : decide ((l.length : Int) ≤ 32) = true := by simp; omega
            have g2 : decide (l.length ≤ 32) = true := by simpa using h3
            have HE2 := Lib.hid (show decide (l.length ≤ 32) = true by simpa using h3)
            clear h3
            go_wp2_with fail
            refine (isTag_any t _).mono ?_
            rintro e w' ⟨rfl, rfl⟩
            obtain ⟨tb, htb⟩ : ∃ z, tgB t = z := ⟨_, rfl⟩
            rw [htb]
            replace htb := Lib.hid htb
            go_wp2
            go_ret
            exact ⟨ret_bool (by rw [HE.out, HE2.out, htb.out]; simp), HB0.out⟩
          · have g1 : decide ((l.length : Int) ≤ 32) = false := by simp; omega
            have g2 : decide (l.length ≤ 32) = false := by simpa using h3
            have HE2 := Lib.hid (show decide (l.length ≤ 32) = false by simpa using h3)
            clear h3
            go_wp2
            go_ret
            exact ⟨ret_bool (by first | rfl | (rw [HE.out, HE2.out]; simp)), HB0.out⟩
theorem valid_any (a b c d : Int) (sl : Value) (l : List Int) (t : Int) (w : World) (h : IntsAt w sl l) : Calls Try.prog 17 #[.agg #[.int .i64 a, .int .i64 b, .int .i64 c, .int .i64 d, sl, .int .i64 t]] w fun e w' => e = .returned (.bool (vaB a b c d l t)) ∧ Below w.heap.size w w' := by
  unfold vaB
  cases hv : (fdB a && (fdB b && (fdB c && fdB d)))
  · rw [Bool.false_and]
    exact valid_bad a b c d sl l t w h hv
  · rw [Bool.true_and]
    rw [Bool.and_eq_true, Bool.and_eq_true, Bool.and_eq_true] at hv
    exact valid_ok a b c d sl l t w h hv
end Go.Proofs.Ytebeaekiaikgmaa
