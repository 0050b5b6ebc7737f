/- Hash trees: 'Few' of the reference; law CryptoPaths, the walk. -/
import Derived.Test.YtiiehoeoaalbmaaTf
import Derived.Test.YtiiehoeoaalbmaaGj
namespace Go.Proofs.Ytiiehoeoaalbmaa
open Go.RowKit

def big (l : List Int) : Bool := decide (40 < l.length)
def fewB (L : List (List Int)) (m : Int) : Bool := !L.any big && decide ((L.length : Int) ≤ m)
theorem big_none {L : List (List Int)} (h : ∀ j, j < L.length → big (L.getD j []) = false) : L.any big = false := by
  rw [List.any_eq_false]
  intro x hx
  obtain ⟨j, hj, rfl⟩ := List.getElem_of_mem hx
  have := h j hj
  simp [hj] at this
  simp [this]
theorem big_hit {L : List (List Int)} {k : Nat} (h : k < L.length) (hb : big (L.getD k []) = true) : L.any big = true := by
  rw [List.any_eq_true]
  exact ⟨L.getD k [], by simp [h], hb⟩
theorem few_len {L : List (List Int)} {m : Int} (h : fewB L m = true) : (L.length : Int) ≤ m ∧ ∀ i, i < L.length → (L.getD i []).length ≤ 40 := by
  unfold fewB at h
  rw [Bool.and_eq_true, decide_eq_true_iff] at h
  refine ⟨h.2, fun i hi => ?_⟩
  have h1 : L.any big = false := by simpa using h.1
  rw [List.any_eq_false] at h1
  have := h1 (L.getD i []) (by simp [hi])
  unfold big at this
  simpa using this
theorem hlv_more : ∀ (f g n : Nat), n ≤ f → n ≤ g → hlv f n = hlv g n
  | 0, 0, _, _, _ => rfl
  | 0, g + 1, n, h, _ => by
    obtain rfl : n = 0 := by omega
    rfl
  | f + 1, 0, n, _, h => by
    obtain rfl : n = 0 := by omega
    rfl
  | f + 1, g + 1, n, h1, h2 => by
    unfold hlv
    by_cases g0 : 1 < n
    · rw [if_pos g0, if_pos g0, hlv_more f g ((n + 1) / 2) (by omega) (by omega)]
    · rw [if_neg g0, if_neg g0]
theorem hlv_step {f n : Nat} (h : 1 < n) (hf : n ≤ f) : hlv f n = hlv f ((n + 1) / 2) + 1 := by
  cases f with
  | zero => omega
  | succ f =>
    conv => lhs; unfold hlv
    rw [if_pos h, hlv_more f (f + 1) _ (by omega) (by omega)]
theorem hlv_end {f n : Nat} (h : ¬ 1 < n) : hlv f n = 0 := by
  cases f with
  | zero => rfl
  | succ f => unfold hlv; rw [if_neg h]
theorem stN_L2 (s : St) (x : Int) : s.L.length ≤ (stN s x).L.length := by unfold stN; split; simp; split <;> simp
theorem stK_L2 (l : List Int) (i : Int) (p : List Int) : ∀ k, 2 ≤ (stK l i p k).L.length
  | 0 => by simp [stK]
  | k + 1 => Nat.le_trans (stK_L2 l i p k) (stN_L2 _ _)
theorem lvs_get {L : List (List Int)} {j : Nat} (h : j < L.length) : (lvs L).getD j 0 = lf (L.getD j []) := by simp [lvs, h]
theorem pthA_in {L : List (List Int)} {j : Nat} (h : j < L.length) (h2 : L.length ≤ 1000) : pthA L j = pthL (rowsT (lvs L)) j := by
  unfold pthA
  rw [if_pos ⟨h2, by omega, by omega⟩]
  rfl
end Go.Proofs.Ytiiehoeoaalbmaa
