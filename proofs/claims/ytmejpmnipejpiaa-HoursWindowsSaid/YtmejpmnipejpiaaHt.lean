/- Law HoursDays, the walk. -/
import Derived.Test.YtmejpmnipejpiaaHs
namespace Go.Proofs.Ytmejpmnipejpiaa
open Go.RowKit

theorem nxt_shift {g : Int → Bool} {m s : Int} (h : ∀ j : Nat, chg g (m + s) j = chg g m j) : ∀ n, nxt g (m + s) n = nxt g m n
  | 0 => rfl
  | n + 1 => by unfold nxt; rw [nxt_shift h n, h n]
theorem chg_day (l : List (Int × Int)) (m k : Int) (j : Nat) : chg (Qm l) (m + 1440 * k) j = chg (Qm l) m j := by
  unfold chg
  rw [show m + 1440 * k + j + 1 = m + j + 1 + 1440 * k by omega, show m + 1440 * k + j = m + j + 1440 * k by omega, Qm_day, Qm_day]
theorem fine_in {l : List (Int × Int)} {m x : Int} (h : fine l m = true) (h1 : -1000000000 ≤ x) (h2 : x ≤ 1000000000) : nxV l x = (match nxt (Qm l) x 1440 with | some i => ((i : Int) + 1, true) | none => (0, false)) ∧ qui l x = Qm l x := by
  have hf := fine_iff.1 h
  unfold nxV qui
  rw [hf.1, inR_of h1 h2]
  generalize nxt (Qm l) x 1440 = o
  exact ⟨rfl, rfl⟩
theorem days_facts {l : List (Int × Int)} {m d : Int} (h : fine l m = true) (h1 : -32768 ≤ d) (h2 : d ≤ 32767) : nxV l (m + 1440 * d) = nxV l m ∧ qui l (m + 1440 * d) = qui l m := by
  have hf := fine_iff.1 h
  obtain ⟨a1, a2⟩ := fine_in (x := m) h (by omega) (by omega)
  obtain ⟨b1, b2⟩ := fine_in (x := m + 1440 * d) h (by omega) (by omega)
  rw [a1, a2, b1, b2, nxt_shift (fun j => chg_day l m d j), Qm_day]
  generalize nxt (Qm l) m 1440 = o
  exact ⟨rfl, rfl⟩
/-- What law HoursNext says. -/
theorem next_facts {l : List (Int × Int)} {m : Int} (h : fine l m = true) : (nxV l m = (0, false) ∧ ∀ r : Nat, r ≤ 65535 → qui l (m + r) = qui l m) ∨
    ∃ n : Nat, 1 ≤ n ∧ n ≤ 1440 ∧ nxV l m = ((n : Int), true) ∧ qui l (m + n) = (!qui l m) ∧ ∀ r : Nat, r < n → qui l (m + r) = qui l m := by
  have hf := fine_iff.1 h
  have hq := fun (x : Nat) (hx : x ≤ 65535) => (fine_in (x := m + x) h (by omega) (by omega)).2
  obtain ⟨a1, a2⟩ := fine_in (x := m) h (by omega) (by omega)
  rw [a1, a2]
  cases hn : nxt (Qm l) m 1440 with
  | none =>
    have hno := nxt_none hn
    clear hn
    refine .inl ⟨rfl, fun r hr => ?_⟩
    rw [hq r hr]
    have e : Qm l (m + r) = Qm l (m + ((r % 1440 : Nat) : Int)) := by
      have := Qm_day l (m + ((r % 1440 : Nat) : Int)) ((r / 1440 : Nat) : Int)
      rw [← this]
      congr 1
      omega
    rw [e]
    exact same_till fun j hj => hno j (by omega)
  | some i =>
    obtain ⟨h1, h2, h3⟩ := nxt_some hn
    clear hn
    refine .inr ⟨i + 1, by omega, by omega, ?_, ?_, fun r hr => ?_⟩
    · simp
    · rw [hq _ (by omega)]
      have hc := chg_true h2
      rw [same_till (n := i) h3] at hc
      rw [show m + ((i + 1 : Nat) : Int) = m + i + 1 by omega]
      revert hc
      cases Qm l (m + i + 1) <;> cases Qm l m <;> simp
    · rw [hq _ (by omega)]
      exact same_till fun j hj => h3 j (by omega)
set_option maxRecDepth 100000 in
set_option maxHeartbeats 8000000 in
theorem hd_a (v : Value) (l : List (Int × Int)) (m d : Int) (w : World) (h : WinsAt w v l) (hf : fine l m = false) : Calls Try.prog 4 #[v, .int .i64 m, .int .i16 d] w fun e w' => e = .returned (.bool true) ∧ Below w.heap.size w w' := by
  have HI0 := Lib.hid h
  obtain ⟨va, vc, rfl, -, hm9, -⟩ := h
  unfold maxLen at hm9
  replace hf := Lib.hid hf
  have HB0 := Lib.hid (Below.refl w.heap.size w)
  go_enter Try.func4, Try.ntmps4
  go_wp2_with fail
  refine (head_any _).mono ?_
  rintro e u1 ⟨rfl, b1⟩
  have FL_1 := Lib.hid (HI0.out.step b1)
  clear HI0
  have HB2 := Lib.hid (keep2 b1 HB0.out)
  clear HB0 b1
  go_wp2_with fail
  refine (fine_q _ l m _ hf.out _ FL_1.out).mono ?_
  rintro e u2 ⟨rfl, b2⟩
  have FL_3 := Lib.hid (FL_1.out.step b2)
  clear FL_1
  have HB4 := Lib.hid (keep2 b2 HB2.out)
  clear HB2 b2
  go_wp2
  go_ret
  exact ⟨rfl, HB4.out⟩
set_option maxRecDepth 100000 in
set_option maxHeartbeats 8000000 in
theorem hd_b (v : Value) (l : List (Int × Int)) (m d : Int) (w : World) (h : WinsAt w v l) (d0 : -32768 ≤ d) (d1 : d ≤ 32767) (hf : fine l m = true) : Calls Try.prog 4 #[v, .int .i64 m, .int .i16 d] w fun e w' => e = .returned (.bool true) ∧ Below w.heap.size w w' := by
  have HI0 := Lib.hid h
  obtain ⟨va, vc, rfl, -, hm9, -⟩ := h
  unfold maxLen at hm9
  have hb := (fine_iff.1 hf).2
  obtain ⟨hn9, hq9⟩ := days_facts hf d0 d1
  obtain ⟨nx, nb, hnx⟩ : ∃ x b, nxV l m = (x, b) := ⟨_, _, rfl⟩
  obtain ⟨qb, hqb⟩ : ∃ z, qui l m = z := ⟨_, rfl⟩
  rw [hnx] at hn9
  rw [hqb] at hq9
  replace hf := Lib.hid hf
  replace hn9 := Lib.hid hn9
  replace hq9 := Lib.hid hq9
  replace hnx := Lib.hid hnx
  replace hqb := Lib.hid hqb
  have HB0 := Lib.hid (Below.refl w.heap.size w)
  go_enter Try.func4, Try.ntmps4
  go_wp2_with fail
  refine (head_any _).mono ?_
  rintro e u1 ⟨rfl, b1⟩
  have FL_1 := Lib.hid (HI0.out.step b1)
  clear HI0
  have HB2 := Lib.hid (keep2 b1 HB0.out)
  clear HB0 b1
  go_wp2_with fail
  refine (fine_q _ l m _ hf.out _ FL_1.out).mono ?_
  rintro e u2 ⟨rfl, b2⟩
  have FL_3 := Lib.hid (FL_1.out.step b2)
  clear FL_1
  have HB4 := Lib.hid (keep2 b2 HB2.out)
  clear HB2 b2
  go_wp2_with fail
  refine (next_q _ l m _ _ hnx.out _ FL_3.out).mono ?_
  rintro e u3 ⟨rfl, b3⟩
  have FL_5 := Lib.hid (FL_3.out.step b3)
  clear FL_3
  have HB6 := Lib.hid (keep2 b3 HB4.out)
  clear HB4 b3
  go_wp2_with fail
  refine (next_q _ l (m + 1440 * d) _ _ hn9.out _ FL_5.out).mono ?_
  rintro e u4 ⟨rfl, b4⟩
  have FL_7 := Lib.hid (FL_5.out.step b4)
  clear FL_5
  have HB8 := Lib.hid (keep2 b4 HB6.out)
  clear HB6 b4
  go_wp2_with fail
  refine (quiet_q _ l m _ hqb.out _ FL_7.out).mono ?_
  rintro e u5 ⟨rfl, b5⟩
  have FL_9 := Lib.hid (FL_7.out.step b5)
  clear FL_7
  have HB10 := Lib.hid (keep2 b5 HB8.out)
  clear HB8 b5
  go_wp2_with fail
  refine (quiet_q _ l (m + 1440 * d) _ hq9.out _ FL_9.out).mono ?_
  rintro e u6 ⟨rfl, b6⟩
  have FL_11 := Lib.hid (FL_9.out.step b6)
  clear FL_9
  have HB12 := Lib.hid (keep2 b6 HB10.out)
  clear HB10 b6
  go_wp2
  go_ret
  exact ⟨rfl, HB12.out⟩
theorem days_any (v : Value) (l : List (Int × Int)) (m d : Int) (w : World) (h : WinsAt w v l) (d0 : -32768 ≤ d) (d1 : d ≤ 32767) : Calls Try.prog 4 #[v, .int .i64 m, .int .i16 d] w fun e w' => e = .returned (.bool true) ∧ Below w.heap.size w w' := by
  cases hf : fine l m
  · exact hd_a v l m d w h hf
  · exact hd_b v l m d w h d0 d1 hf
end Go.Proofs.Ytmejpmnipejpiaa
