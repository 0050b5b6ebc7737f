/- Quiet hours: lists of changes compared; 'inRange' of the laws. -/
import Derived.Test.YtmejpmnipejpiaaHl
namespace Go.Proofs.Ytmejpmnipejpiaa
open Go.RowKit

def eqC (a b : List (Int × Bool)) : Bool := decide (a = b)
theorem eqC_self (a : List (Int × Bool)) : eqC a a = true := by simp [eqC]
theorem eqC_len {a b : List (Int × Bool)} (h : a.length ≠ b.length) : eqC a b = false := by
  unfold eqC
  rw [decide_eq_false]
  intro e; rw [e] at h; exact h rfl
theorem eqC_at {a b : List (Int × Bool)} {k : Nat} (h : a.getD k (0, false) ≠ b.getD k (0, false)) : eqC a b = false := by
  unfold eqC
  rw [decide_eq_false]
  intro e; rw [e] at h; exact h rfl
theorem eqC_all {a b : List (Int × Bool)} (hl : a.length = b.length) (h : ∀ j, j < a.length → a.getD j (0, false) = b.getD j (0, false)) : eqC a b = true := by
  unfold eqC
  rw [decide_eq_true_iff]
  apply List.ext_getElem hl
  intro j h1 h2
  have := h j h1
  rwa [show a.getD j (0, false) = a[j] by simp [h1], show b.getD j (0, false) = b[j] by simp [h2]] at this
set_option maxRecDepth 100000 in
set_option maxHeartbeats 4000000 in
theorem same_any (v u : Value) (a b : List (Int × Bool)) (w : World) (h : ChsAt w v a) (h' : ChsAt w u b) : Calls Try.prog 16 #[v, u] w fun e w' => e = .returned (.bool (eqC a b)) ∧ Below w.heap.size w w' := by
  have HA := Lib.hid h
  have HB := Lib.hid h'
  obtain ⟨va, vc, rfl, -, hm, -⟩ := h
  obtain ⟨ua, uc, rfl, -, hm', -⟩ := h'
  unfold maxLen at hm hm'
  have HB0 := Lib.hid (Below.refl w.heap.size w)
  by_cases hl : a.length = b.length
  · have e1 : ((a.length : Int) != b.length) = false := by simp [hl]
    have e2 : ((a.length : Int) = b.length) = True := by simp [hl]
    have HLL := Lib.hid hl
    clear hl
    go_enter Try.func16, Try.ntmps16
    go_wp2_with fail
    clear e1 e2
    go_loopw [5] (fun i wr => ∃ k : Nat, k ≤ a.length ∧ i = .int .i64 k ∧ Hid (∀ j, j < k → a.getD j (0, false) = b.getD j (0, false)) ∧ Hid (Below w.heap.size w wr)) (fun i _ => a.length - (intOf i).toNat)
    case atStart => exact ⟨0, by omega, rfl, Lib.hid (fun j h => absurd h (by omega)), HB0⟩
    case round =>
      clear HB0
      obtain ⟨k, hk, rfl, HN, HBW⟩ := hrel
      by_cases hlt : k < a.length
      · have hlt2 : k < b.length := by rw [← HLL.out]; exact hlt
        obtain ⟨a2, cap2, hva, -, -, hcs⟩ := HA.out.step HBW.out
        obtain ⟨rfl, rfl⟩ : va = a2 ∧ vc = cap2 := by simpa using hva
        obtain ⟨b1, o1, rfl, hcs2⟩ := hcs (by intro h; rw [h] at hlt; simp at hlt)
        obtain ⟨x0, x1⟩ := hcs2 k _ (win_get (d := (0, false)) hlt)
        obtain ⟨a3, cap3, hua, -, -, hds⟩ := HB.out.step HBW.out
        obtain ⟨rfl, rfl⟩ : ua = a3 ∧ uc = cap3 := by simpa using hua
        obtain ⟨b3, o3, rfl, hds2⟩ := hds (by intro h; rw [h] at hlt2; simp at hlt2)
        obtain ⟨y0, y1⟩ := hds2 k _ (win_get (d := (0, false)) hlt2)
        clear hcs hcs2 hva hds hds2 hua
        have HO := Lib.hid (fun e => eqC_at (a := a) (b := b) (k := k) e)
        have HY := Lib.hid (show a.getD k (0, false) = b.getD k (0, false) → ∀ j, j < k + 1 → a.getD j (0, false) = b.getD j (0, false) from fun e j h => by
          by_cases hjk : j = k
          · rw [hjk]; exact e
          · exact HN.out j (by omega))
        generalize a.getD k (0, false) = p at *
        generalize b.getD k (0, false) = q at *
        obtain ⟨p1, p2⟩ := p
        obtain ⟨q1, q2⟩ := q
        simp only at x0 x1 y0 y1
        by_cases h1 : p1 = q1
        · subst h1
          by_cases h2 : p2 = q2
          · subst h2
            have HZ := Lib.hid (HY.out rfl)
            clear HO HY
            cases p2
            all_goals
              go_wp2_with fail
              go_quiet (fail)
              go_wp2
              go_roundw
              case rel => exact ⟨k + 1, hlt, by go_num, HZ, Lib.hid (HBW.out.trans (below_drewN' _ _ _))⟩
              case measure => simp [intOf]; omega
          · have HZ := Lib.hid (HO.out (by intro e; cases e; exact h2 rfl))
            clear HO HY
            cases p2 <;> cases q2
            any_goals (exfalso; exact h2 rfl)
            all_goals
              go_wp2_with fail
              go_quiet (fail)
              go_wp2
              go_ret
              exact ⟨ret_bool (a := false) HZ.out.symm, HBW.out.trans (below_drewN' _ _ _)⟩
        · have HZ := Lib.hid (HO.out (by intro e; cases e; exact h1 rfl))
          clear HO HY
          cases p2 <;> cases q2
          all_goals
            go_wp2_with fail
            go_quiet (fail)
            go_wp2
            go_ret
            exact ⟨ret_bool (a := false) HZ.out.symm, HBW.out.trans (below_drewN' _ _ _)⟩
      · obtain rfl : k = a.length := by omega
        have HZ := Lib.hid (eqC_all HLL.out HN.out)
        go_wp2
        go_ret
        exact ⟨ret_bool (a := true) HZ.out.symm, HBW.out⟩
  · have HZ := Lib.hid (eqC_len hl)
    have e1 : ((a.length : Int) != b.length) = true := by simp; omega
    have e2 : ((a.length : Int) = b.length) = False := by simp; omega
    go_enter Try.func16, Try.ntmps16
    go_wp2
    go_ret
    exact ⟨ret_bool (a := false) HZ.out.symm, HB0.out⟩
theorem of_decide_eq {p : Prop} [Decidable p] {b : Bool} (h : decide p = b) : p ↔ b = true := by subst h; simp
/-- Windows that are well-formed, and a minute far from the ends. -/
def fine (l : List (Int × Int)) (m : Int) : Bool := okL l && decide (-900000000 ≤ m) && decide (m ≤ 900000000)
theorem fine_iff {l : List (Int × Int)} {m : Int} : fine l m = true ↔ okL l = true ∧ -900000000 ≤ m ∧ m ≤ 900000000 := by
  unfold fine
  rw [Bool.and_eq_true, Bool.and_eq_true, decide_eq_true_iff, decide_eq_true_iff, and_assoc]
set_option maxRecDepth 100000 in
set_option maxHeartbeats 4000000 in
theorem fine_any (v : Value) (l : List (Int × Int)) (m : Int) (w : World) (h : WinsAt w v l) : Calls Try.prog 19 #[v, .int .i64 m] w fun e w' => e = .returned (.bool (fine l m)) ∧ Below w.heap.size w w' := by
  cases hv : okL l
  · have HV := Lib.hid hv
    have HR := Lib.hid (show fine l m = false by unfold fine; rw [hv]; rfl)
    clear hv
    go_enter Try.func19, Try.ntmps19
    go_wp2_with fail
    refine (rvalid_q v l _ h _ HV.out).mono ?_
    rintro e w1 ⟨rfl, b1⟩
    have HB := Lib.hid b1
    clear b1
    go_wp2
    go_ret
    exact ⟨ret_bool (a := false) HR.out.symm, HB.out⟩
  · have HV := Lib.hid hv
    cases q1 : decide (-900000000 ≤ m) <;> cases q2 : decide (m ≤ 900000000)
    all_goals
      have HR := Lib.hid (show fine l m = (decide (-900000000 ≤ m) && decide (m ≤ 900000000)) by unfold fine; rw [hv, Bool.true_and])
      rw [q1, q2] at HR
      have q3 := of_decide_eq q1
      clear hv
      go_enter Try.func19, Try.ntmps19
      go_wp2_with fail
      refine (rvalid_q v l _ h _ HV.out).mono ?_
      rintro e w1 ⟨rfl, b1⟩
      have HB := Lib.hid b1
      clear b1
      go_wp2
      go_ret
      exact ⟨ret_bool HR.out.symm, HB.out⟩
end Go.Proofs.Ytmejpmnipejpiaa
