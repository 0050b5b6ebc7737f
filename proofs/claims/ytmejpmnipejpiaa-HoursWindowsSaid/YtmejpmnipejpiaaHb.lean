/- Quiet hours: windows in memory, the small functions, what a window covers. -/
import Derived.Test.YtmejpmnipejpiaaBb
import Derived.Test.YtmejpmnipejpiaaHa
namespace Go.Proofs.Ytmejpmnipejpiaa
open Go.RowKit

/-- A list of windows behind a slice. -/
def WinsAt (w : World) (v : Value) (l : List (Int × Int)) : Prop :=
  ∃ a cap, v = .slice a l.length cap ∧ l.length ≤ cap ∧ l.length ≤ maxLen ∧ (l ≠ [] → ∃ b off, a = some ⟨b, off, none⟩ ∧ ∀ (i : Nat) (x : Int × Int), l[i]? = some x →
    w.cell? ⟨b, off + i * 2, none⟩ = some (.int .i64 x.1) ∧ w.cell? ⟨b, off + i * 2 + 1, none⟩ = some (.int .i64 x.2))
theorem WinsAt.step {w w1 : World} {v : Value} {l : List (Int × Int)} (h : WinsAt w v l) (hb : Below w.heap.size w w1) : WinsAt w1 v l := by
  obtain ⟨a, cap, hv, h1, hm, hc⟩ := h
  refine ⟨a, cap, hv, h1, hm, fun hl => ?_⟩
  obtain ⟨b, off, ha, hx⟩ := hc hl
  exact ⟨b, off, ha, fun i x h => ⟨keep1 hb (hx i x h).1, keep1 hb (hx i x h).2⟩⟩
theorem wins_nil (w : World) : WinsAt w (.slice none 0 0) [] := ⟨none, 0, rfl, by simp, by simp, fun h => absurd rfl h⟩
/-- A list of changes behind a slice. -/
def ChsAt (w : World) (v : Value) (l : List (Int × Bool)) : Prop :=
  ∃ a cap, v = .slice a l.length cap ∧ l.length ≤ cap ∧ l.length ≤ maxLen ∧ (l ≠ [] → ∃ b off, a = some ⟨b, off, none⟩ ∧ ∀ (i : Nat) (x : Int × Bool), l[i]? = some x →
    w.cell? ⟨b, off + i * 2, none⟩ = some (.int .i64 x.1) ∧ w.cell? ⟨b, off + i * 2 + 1, none⟩ = some (.bool x.2))
theorem ChsAt.step {w w1 : World} {v : Value} {l : List (Int × Bool)} (h : ChsAt w v l) (hb : Below w.heap.size w w1) : ChsAt w1 v l := by
  obtain ⟨a, cap, hv, h1, hm, hc⟩ := h
  refine ⟨a, cap, hv, h1, hm, fun hl => ?_⟩
  obtain ⟨b, off, ha, hx⟩ := hc hl
  exact ⟨b, off, ha, fun i x h => ⟨keep1 hb (hx i x h).1, keep1 hb (hx i x h).2⟩⟩
theorem chs_nil (w : World) : ChsAt w (.slice none 0 0) [] := ⟨none, 0, rfl, by simp, by simp, fun h => absurd rfl h⟩
theorem win_get {α : Type} {l : List α} {k : Nat} {d : α} (h : k < l.length) : l[k]? = some (l.getD k d) := by simp [h]
/-- A minute of the day. -/
def minB (n : Int) : Bool := decide (0 ≤ n) && decide (n < 1440)
theorem minB_is (n : Int) : minB n = (decide (0 ≤ n) && decide (n ≤ 1439)) := by unfold minB; rw [Bool.eq_iff_iff]; simp; omega
theorem isMin_any (n : Int) (w : World) : Calls Try.prog 26 #[.int .i64 n] w fun e w' => e = .returned (.bool (minB n)) ∧ w = w' := by
  by_cases h1 : 0 ≤ n <;> by_cases h2 : n < 1440
  all_goals
    have HR := Lib.hid (show minB n = (decide (0 ≤ n) && decide (n < 1440)) from rfl)
    simp only [h1, h2, decide_true, decide_false, Bool.and_self, Bool.and_false, Bool.and_true] at HR
    go_enter Try.func26, Try.ntmps26
    go_wp2
    go_ret
    exact ⟨ret_bool HR.out.symm, rfl⟩
theorem inR_any (n : Int) (w : World) : Calls Try.prog 21 #[.int .i64 n] w fun e w' => e = .returned (.bool (inR n)) ∧ w = w' := by
  by_cases h1 : -1000000000 ≤ n <;> by_cases h2 : n ≤ 1000000000
  all_goals
    have HR := Lib.hid (show inR n = (decide (-1000000000 ≤ n) && decide (n ≤ 1000000000)) from rfl)
    simp only [h1, h2, decide_true, decide_false, Bool.and_self, Bool.and_false, Bool.and_true] at HR
    go_enter Try.func21, Try.ntmps21
    go_wp2
    go_ret
    exact ⟨ret_bool HR.out.symm, rfl⟩
theorem rinR_any (n : Int) (w : World) : Calls Try.prog 24 #[.int .i64 n] w fun e w' => e = .returned (.bool (inR n)) ∧ w = w' := by
  by_cases h1 : -1000000000 ≤ n <;> by_cases h2 : n ≤ 1000000000
  all_goals
    have HR := Lib.hid (show inR n = (decide (-1000000000 ≤ n) && decide (n ≤ 1000000000)) from rfl)
    simp only [h1, h2, decide_true, decide_false, Bool.and_self, Bool.and_false, Bool.and_true] at HR
    go_enter Try.func24, Try.ntmps24
    go_wp2
    go_ret
    exact ⟨ret_bool HR.out.symm, rfl⟩
/-- The minute of the day, as the program computes it. -/
theorem day_of (m : Int) (h1 : -2000000000 ≤ m) (h2 : m ≤ 2000000000) : (m.tmod 1440 + 1440).tmod 1440 = m % 1440 := by
  have h3 : m.tmod 1440 = if 0 ≤ m then m % 1440 else -((-m) % 1440) := by
    split
    · exact Int.tmod_eq_emod_of_nonneg (by omega)
    · have : m = -(-m) := by omega
      rw [this, Int.neg_tmod, Int.tmod_eq_emod_of_nonneg (by omega)]; omega
  rw [h3]
  rw [Int.tmod_eq_emod_of_nonneg (by split <;> omega)]
  split <;> omega
theorem day_bd (m : Int) (h1 : -2000000000 ≤ m) (h2 : m ≤ 2000000000) : -1440 < m.tmod 1440 ∧ m.tmod 1440 < 1440 := by
  have h3 : m.tmod 1440 = if 0 ≤ m then m % 1440 else -((-m) % 1440) := by
    split
    · exact Int.tmod_eq_emod_of_nonneg (by omega)
    · have : m = -(-m) := by omega
      rw [this, Int.neg_tmod, Int.tmod_eq_emod_of_nonneg (by omega)]; omega
  rw [h3]
  split <;> omega
set_option maxRecDepth 100000 in
set_option maxHeartbeats 4000000 in
theorem covers_any (f t m : Int) (w : World) (hm1 : -2000000000 ≤ m) (hm2 : m ≤ 2000000000) : Calls Try.prog 28 #[.agg #[.int .i64 f, .int .i64 t], .int .i64 m] w fun e w' => e = .returned (.bool (cov f t (m % 1440))) ∧ Below w.heap.size w w' := by
  obtain ⟨x, hx⟩ : ∃ x, m % 1440 = x := ⟨_, rfl⟩
  obtain ⟨y, hy⟩ : ∃ y, m.tmod 1440 = y := ⟨_, rfl⟩
  have hd := day_of m hm1 hm2
  have hb := day_bd m hm1 hm2
  rw [hy] at hd hb
  rw [hx] at hd ⊢
  have q1 : wrap64 (m.tmod 1440) = y := by rw [hy]; exact IntWalk.wrap64_in _ (by omega)
  have q2 : wrap64 (y + 1440) = y + 1440 := IntWalk.wrap64_in _ (by omega)
  have q3 : wrap64 ((y + 1440).tmod 1440) = x := by rw [hd]; exact IntWalk.wrap64_in _ (by omega)
  have hx0 : 0 ≤ x ∧ x ≤ 1439 := by omega
  clear hx
  by_cases h1 : f < t
  · by_cases h2 : f ≤ x <;> by_cases h3 : x < t
    any_goals (exfalso; omega)
    all_goals
      have HR := Lib.hid (show cov f t x = (decide (f ≤ x) && decide (x < t)) by unfold cov; rw [if_pos h1])
      simp only [h2, h3, decide_true, decide_false, Bool.and_self, Bool.and_false, Bool.and_true] at HR
      have c0 := Lib.hid (al w (.cells #[.int .i64 f, .int .i64 t] 40))
      go_enter Try.func28, Try.ntmps28
      go_wp2
      go_ret
      exact ⟨ret_bool HR.out.symm, c0.out⟩
  · by_cases h2 : f ≤ x <;> by_cases h3 : x < t
    any_goals (exfalso; omega)
    all_goals
      have HR := Lib.hid (show cov f t x = (decide (f ≤ x) || decide (x < t)) by unfold cov; rw [if_neg h1])
      simp only [h2, h3, decide_true, decide_false, Bool.or_self, Bool.or_false, Bool.or_true] at HR
      have c0 := Lib.hid (al w (.cells #[.int .i64 f, .int .i64 t] 40))
      go_enter Try.func28, Try.ntmps28
      go_wp2
      go_ret
      exact ⟨ret_bool HR.out.symm, c0.out⟩
end Go.Proofs.Ytmejpmnipejpiaa
