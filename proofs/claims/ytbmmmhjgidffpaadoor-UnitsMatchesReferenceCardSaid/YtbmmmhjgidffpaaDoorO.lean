/- The contracts of the reference's 'Unit' and 'All', and of 'unit'. -/
import Derived.Test.YtbmmmhjgidffpaaDoorK
import Derived.OpenShut
namespace Go.Proofs.YtbmmmhjgidffpaaDoor
open Go.RowKit Go.WideShapes

theorem ux_eq {s : ByteArray} (h : ux s < 11) : s = tN (ux s) := by
  unfold ux at h ⊢
  cases hf : (List.range 11).find? fun k => (tN k).data.toList == s.data.toList with
  | none => rw [hf] at h; simp at h
  | some k =>
    have := List.find?_some hf
    simp only [beq_iff_eq] at this
    exact (bytes_inj this).symm
theorem ux_ne {s : ByteArray} (h : ¬ ux s < 11) (k : Nat) (hk : k < 11) : (tN k).data.toList ≠ s.data.toList := by
  intro e
  have := bytes_inj e
  rw [← this, ux_tN k hk] at h
  exact h hk
theorem ux_le (s : ByteArray) : ux s ≤ 11 := by
  unfold ux
  cases hf : (List.range 11).find? fun k => (tN k).data.toList == s.data.toList with
  | none => simp
  | some k => have := List.mem_of_find?_eq_some hf; simp at this; simp; omega
theorem unit26_0 (w : World) : Calls Tryd.prog 26 #[.string ⟨#[]⟩] w fun e w' => e = .returned (.tuple #[.int .i64 1, .int .i64 1]) ∧ w = w' := by
  go_enter Tryd.func26, Tryd.ntmps26
  go_wp2
  go_ret2
  exact ⟨rfl, rfl⟩
theorem unit26_1 (w : World) : Calls Tryd.prog 26 #[.string ⟨#[67]⟩] w fun e w' => e = .returned (.tuple #[.int .i64 2, .int .i64 1]) ∧ w = w' := by
  go_enter Tryd.func26, Tryd.ntmps26
  go_wp2
  go_ret2
  exact ⟨rfl, rfl⟩
theorem unit26_2 (w : World) : Calls Tryd.prog 26 #[.string ⟨#[104]⟩] w fun e w' => e = .returned (.tuple #[.int .i64 3, .int .i64 3600]) ∧ w = w' := by
  go_enter Tryd.func26, Tryd.ntmps26
  go_wp2
  go_ret2
  exact ⟨rfl, rfl⟩
theorem unit26_3 (w : World) : Calls Tryd.prog 26 #[.string ⟨#[109, 105, 110]⟩] w fun e w' => e = .returned (.tuple #[.int .i64 3, .int .i64 60]) ∧ w = w' := by
  go_enter Tryd.func26, Tryd.ntmps26
  go_wp2
  go_ret2
  exact ⟨rfl, rfl⟩
theorem unit26_4 (w : World) : Calls Tryd.prog 26 #[.string ⟨#[115]⟩] w fun e w' => e = .returned (.tuple #[.int .i64 3, .int .i64 1]) ∧ w = w' := by
  go_enter Tryd.func26, Tryd.ntmps26
  go_wp2
  go_ret2
  exact ⟨rfl, rfl⟩
theorem unit26_5 (w : World) : Calls Tryd.prog 26 #[.string ⟨#[107, 87]⟩] w fun e w' => e = .returned (.tuple #[.int .i64 4, .int .i64 1000]) ∧ w = w' := by
  go_enter Tryd.func26, Tryd.ntmps26
  go_wp2
  go_ret2
  exact ⟨rfl, rfl⟩
theorem unit26_6 (w : World) : Calls Tryd.prog 26 #[.string ⟨#[87]⟩] w fun e w' => e = .returned (.tuple #[.int .i64 4, .int .i64 1]) ∧ w = w' := by
  go_enter Tryd.func26, Tryd.ntmps26
  go_wp2
  go_ret2
  exact ⟨rfl, rfl⟩
theorem unit26_7 (w : World) : Calls Tryd.prog 26 #[.string ⟨#[107, 87, 104]⟩] w fun e w' => e = .returned (.tuple #[.int .i64 5, .int .i64 1000]) ∧ w = w' := by
  go_enter Tryd.func26, Tryd.ntmps26
  go_wp2
  go_ret2
  exact ⟨rfl, rfl⟩
theorem unit26_8 (w : World) : Calls Tryd.prog 26 #[.string ⟨#[87, 104]⟩] w fun e w' => e = .returned (.tuple #[.int .i64 5, .int .i64 1]) ∧ w = w' := by
  go_enter Tryd.func26, Tryd.ntmps26
  go_wp2
  go_ret2
  exact ⟨rfl, rfl⟩
theorem unit26_9 (w : World) : Calls Tryd.prog 26 #[.string ⟨#[108, 120]⟩] w fun e w' => e = .returned (.tuple #[.int .i64 6, .int .i64 1]) ∧ w = w' := by
  go_enter Tryd.func26, Tryd.ntmps26
  go_wp2
  go_ret2
  exact ⟨rfl, rfl⟩
theorem unit26_10 (w : World) : Calls Tryd.prog 26 #[.string ⟨#[37]⟩] w fun e w' => e = .returned (.tuple #[.int .i64 7, .int .i64 1]) ∧ w = w' := by
  go_enter Tryd.func26, Tryd.ntmps26
  go_wp2
  go_ret2
  exact ⟨rfl, rfl⟩
theorem unit26_no (s : ByteArray) (w : World) (h : ¬ ux s < 11) : Calls Tryd.prog 26 #[.string s] w fun e w' => e = .returned (.tuple #[.int .i64 0, .int .i64 0]) ∧ w = w' := by
  have q0 : s.toList.isEmpty = false := by
    have := ux_ne h 0 (by omega)
    rw [ByteArray.toList_eq]
    cases hl : s.data.toList with
    | nil => rw [hl] at this; exact absurd rfl this
    | cons a b => rfl
  have q1 : (s.toList == [67]) = false := by
    have := ux_ne h 1 (by omega)
    rw [ByteArray.toList_eq, beq_eq_false_iff_ne]
    exact fun e => this e.symm
  have q2 : (s.toList == [104]) = false := by
    have := ux_ne h 2 (by omega)
    rw [ByteArray.toList_eq, beq_eq_false_iff_ne]
    exact fun e => this e.symm
  have q3 : (s.toList == [109, 105, 110]) = false := by
    have := ux_ne h 3 (by omega)
    rw [ByteArray.toList_eq, beq_eq_false_iff_ne]
    exact fun e => this e.symm
  have q4 : (s.toList == [115]) = false := by
    have := ux_ne h 4 (by omega)
    rw [ByteArray.toList_eq, beq_eq_false_iff_ne]
    exact fun e => this e.symm
  have q5 : (s.toList == [107, 87]) = false := by
    have := ux_ne h 5 (by omega)
    rw [ByteArray.toList_eq, beq_eq_false_iff_ne]
    exact fun e => this e.symm
  have q6 : (s.toList == [87]) = false := by
    have := ux_ne h 6 (by omega)
    rw [ByteArray.toList_eq, beq_eq_false_iff_ne]
    exact fun e => this e.symm
  have q7 : (s.toList == [107, 87, 104]) = false := by
    have := ux_ne h 7 (by omega)
    rw [ByteArray.toList_eq, beq_eq_false_iff_ne]
    exact fun e => this e.symm
  have q8 : (s.toList == [87, 104]) = false := by
    have := ux_ne h 8 (by omega)
    rw [ByteArray.toList_eq, beq_eq_false_iff_ne]
    exact fun e => this e.symm
  have q9 : (s.toList == [108, 120]) = false := by
    have := ux_ne h 9 (by omega)
    rw [ByteArray.toList_eq, beq_eq_false_iff_ne]
    exact fun e => this e.symm
  have q10 : (s.toList == [37]) = false := by
    have := ux_ne h 10 (by omega)
    rw [ByteArray.toList_eq, beq_eq_false_iff_ne]
    exact fun e => this e.symm
  clear h
  go_enter Tryd.func26, Tryd.ntmps26
  go_wp2
  go_ret2
  exact ⟨rfl, rfl⟩
theorem unit26_any (s : ByteArray) (w : World) : Calls Tryd.prog 26 #[.string s] w fun e w' => e = .returned (.tuple #[.int .i64 (tD (ux s)), .int .i64 (tF (ux s))]) ∧ w = w' := by
  by_cases h : ux s < 11
  · have he := ux_eq h
    generalize ux s = k at *
    subst he
    match k, h with
    | 0, _ => exact unit26_0 w
    | 1, _ => exact unit26_1 w
    | 2, _ => exact unit26_2 w
    | 3, _ => exact unit26_3 w
    | 4, _ => exact unit26_4 w
    | 5, _ => exact unit26_5 w
    | 6, _ => exact unit26_6 w
    | 7, _ => exact unit26_7 w
    | 8, _ => exact unit26_8 w
    | 9, _ => exact unit26_9 w
    | 10, _ => exact unit26_10 w
  · have he : ux s = 11 := by have := ux_le s; omega
    rw [he]
    exact unit26_no s w h

/-- The number in the table of the unit with a number in the reference's list. -/
def rk (i : Nat) : Nat := match i with
  | 0 => 0 | 1 => 1 | 2 => 4 | 3 => 3 | 4 => 2 | 5 => 6 | 6 => 5 | 7 => 8 | 8 => 7 | 9 => 9 | _ => 10
def rcells : Array Value := #[.string (tN 0), .string (tN 1), .string (tN 4), .string (tN 3), .string (tN 2), .string (tN 6), .string (tN 5), .string (tN 8), .string (tN 7), .string (tN 9), .string (tN 10)]
theorem rcells_at (i : Nat) (hi : i < 11) : rcells[i]? = some (.string (tN (rk i))) := by
  match i, hi with
  | 0, _ => rfl
  | 1, _ => rfl
  | 2, _ => rfl
  | 3, _ => rfl
  | 4, _ => rfl
  | 5, _ => rfl
  | 6, _ => rfl
  | 7, _ => rfl
  | 8, _ => rfl
  | 9, _ => rfl
  | 10, _ => rfl
theorem rk_lt (i : Nat) : rk i < 11 := by unfold rk; split <;> omega
theorem rk_onto (k : Nat) (hk : k < 11) : ∃ i, i < 11 ∧ rk i = k := (show ∀ k : Nat, k < 11 → ∃ i, i < 11 ∧ rk i = k by decide) k hk
/-- What 'All' gives. -/
def AllPost (w : World) (e : Ending) (w' : World) : Prop := e = .returned (.slice (some ⟨w.heap.size, 0, none⟩) 11 11) ∧ w' = w.alloc (.cells rcells 9)
theorem all_any (w : World) : Calls Tryd.prog 27 #[] w (AllPost w) := by
  go_enter Tryd.func27, Tryd.ntmps27
  go_wp2
  go_ret
  exact ⟨rfl, rfl⟩
theorem list_cell (w w1 : World) (hb : Below (w.alloc (.cells rcells 9)).heap.size (w.alloc (.cells rcells 9)) w1) (i : Nat) (hi : i < 11) : w1.cell? ⟨w.heap.size, i, none⟩ = some (.string (tN (rk i))) :=
  keep1 hb ((cell_new' w rcells 9 _ rfl i).trans (rcells_at i hi))
theorem unit24_any (x : Int) (w : World) (hx : (Lit.int .u8 x).wf = true) : Calls Tryd.prog 24 #[.int .u8 x] w fun e w' => ∃ i, i < 11 ∧ e = .returned (.string (tN (rk i))) ∧ Below w.heap.size w w' := by
  have hb := bounds_u8 hx
  obtain ⟨b1, b2⟩ := hb
  obtain ⟨i, hi⟩ : ∃ i : Nat, x % 11 = i := ⟨(x % 11).toNat, by omega⟩
  have hi1 : i < 11 := by omega
  clear hx
  go_enter Tryd.func24, Tryd.ntmps24
  go_wp2_with fail
  refine (all_any _).mono ?_
  rintro e w1 ⟨rfl, rfl⟩
  have hc := list_cell w _ (Below.refl _ _) i hi1
  have hn : (i : Int) < 11 := by omega
  go_wp2_with fail
  go_ret
  exact ⟨i, hi1, rfl, (Below.refl _ _).alloc (Nat.le_refl _) _⟩
end Go.Proofs.YtbmmmhjgidffpaaDoor
