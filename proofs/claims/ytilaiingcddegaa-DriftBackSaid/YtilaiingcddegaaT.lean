/- Facts on corrected readings, as lists. -/
import Derived.Test.YtilaiingcddegaaI
namespace Go.Proofs.Ytilaiingcddegaa

theorem mx_ge (x : Int) : 0 ≤ mx 0 x ∧ x ≤ mx 0 x := by unfold mx; split <;> omega
theorem mx_pos {x : Int} (h : 0 ≤ x) : mx 0 x = x := by unfold mx; split <;> omega
/-- The corrected reading is not less than the reading. -/
theorem bk_ge (l : List Int) (k : Nat) : l.getD k 0 ≤ bk l k := by
  induction k with
  | zero => exact Int.le_refl _
  | succ k ih =>
    have := (mx_ge (l.getD (k + 1) 0 - l.getD k 0)).2
    rw [bk]; omega
theorem bk_mono (l : List Int) (k : Nat) : bk l k ≤ bk l (k + 1) := by
  have := (mx_ge (l.getD (k + 1) 0 - l.getD k 0)).1
  rw [bk]; omega
/-- No reading up to here was less than the one before it. -/
def fwd (l : List Int) : Nat → Bool
  | 0 => true
  | 1 => true
  | k + 2 => fwd l (k + 1) && !decide (l.getD (k + 1) 0 < l.getD k 0)
theorem bk_fwd (l : List Int) (k : Nat) (h : fwd l (k + 1) = true) : bk l k = l.getD k 0 := by
  induction k with
  | zero => rfl
  | succ k ih =>
    rw [fwd, Bool.and_eq_true] at h
    have h2 : ¬ l.getD (k + 1) 0 < l.getD k 0 := by simpa using h.2
    rw [bk, ih h.1, mx_pos (by omega)]; omega
theorem take_getD (l : List Int) (n k : Nat) (h : k < n) : (l.take n).getD k 0 = l.getD k 0 := by
  rw [List.getD_eq_getElem?_getD, List.getD_eq_getElem?_getD, List.getElem?_take_of_lt h]
theorem bk_take (l : List Int) (n k : Nat) (h : k < n) : bk (l.take n) k = bk l k := by
  induction k with
  | zero => rw [bk, bk, take_getD _ _ _ h]
  | succ k ih => rw [bk, bk, ih (by omega), take_getD _ _ _ h, take_getD _ _ _ (by omega)]
theorem backL_getD (l : List Int) (k : Nat) (h : k < l.length) : (backL l)[k]? = some (bk l k) := by
  unfold backL; rw [List.getElem?_map, List.getElem?_range h]; rfl
theorem backL_of_take (l : List Int) (n : Nat) (h : n ≤ l.length) : backL (l.take n) = (backL l).take n := by
  apply List.ext_getElem?
  intro k
  by_cases hk : k < n
  · rw [backL_getD _ _ (by rw [List.length_take]; omega), List.getElem?_take_of_lt hk, backL_getD _ _ (by omega), bk_take _ _ _ hk]
  · rw [List.getElem?_eq_none (by rw [backL_len, List.length_take]; omega), List.getElem?_eq_none (by rw [List.length_take, backL_len]; omega)]
theorem rdB_take {l : List Int} (h : rdB l = true) (n : Nat) : rdB (l.take n) = true := by
  unfold rdB at h ⊢
  rw [Bool.and_eq_true] at h ⊢
  refine ⟨?_, by have := of_decide_eq_true h.2; simp; omega⟩
  have h1 := h.1
  unfold inR at h1 ⊢
  rw [List.all_eq_true] at h1 ⊢
  intro x hx
  exact h1 x (List.mem_of_mem_take hx)
theorem bkv_take {l : List Int} (h : rdB l = true) (n : Nat) (hn : n ≤ l.length) : bkv (l.take n) = (backL l).take n := by
  unfold bkv; rw [rdB_take h]; exact backL_of_take l n hn
theorem map_getD (l : List Int) (y : Int) (k : Nat) (h : k < l.length) : (l.map (· + y)).getD k 0 = l.getD k 0 + y := by
  simp [List.getD_eq_getElem?_getD, h]
theorem bk_map (l : List Int) (y : Int) (k : Nat) (h : k < l.length) : bk (l.map (· + y)) k = bk l k + y := by
  induction k with
  | zero => rw [bk, bk, map_getD _ _ _ h]
  | succ k ih =>
    rw [bk, bk, ih (by omega), map_getD _ _ _ h, map_getD _ _ _ (by omega), show l.getD (k + 1) 0 + y - (l.getD k 0 + y) = l.getD (k + 1) 0 - l.getD k 0 by omega]
    omega
theorem backL_map (l : List Int) (y : Int) : backL (l.map (· + y)) = (backL l).map (· + y) := by
  apply List.ext_getElem?
  intro k
  by_cases hk : k < l.length
  · rw [backL_getD _ _ (by simpa using hk), List.getElem?_map, backL_getD _ _ hk, bk_map _ _ _ hk]; rfl
  · rw [List.getElem?_eq_none (by rw [backL_len, List.length_map]; omega), List.getElem?_eq_none (by rw [List.length_map, backL_len]; omega)]
/-- A part of a list behind a slice. -/
theorem IntsAt.take {w : World} {a : Option Addr} {c : Nat} {l : List Int} (h : IntsAt w (.slice a l.length c) l) (n : Nat) (hn : n ≤ l.length) : IntsAt w (.slice a n c) (l.take n) := by
  obtain ⟨a2, c2, hv, hm, hc⟩ := h
  obtain ⟨rfl, rfl⟩ : a = a2 ∧ c = c2 := by simpa using hv
  refine ⟨a, c, by rw [List.length_take, Nat.min_eq_left hn], by rw [List.length_take]; omega, fun hne => ?_⟩
  obtain ⟨b, off, ha, hx⟩ := hc (by rintro rfl; simp at hne)
  refine ⟨b, off, ha, fun i x hi => ?_⟩
  by_cases hk : i < n
  · rw [List.getElem?_take_of_lt hk] at hi; exact hx i x hi
  · rw [List.getElem?_eq_none (by rw [List.length_take]; omega)] at hi; cases hi
end Go.Proofs.Ytilaiingcddegaa
