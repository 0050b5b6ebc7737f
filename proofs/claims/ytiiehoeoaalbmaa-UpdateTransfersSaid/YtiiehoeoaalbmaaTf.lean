/- Hash trees: plain facts on rows, roots and paths. -/
import Derived.Test.YtiiehoeoaalbmaaGj
namespace Go.Proofs.Ytiiehoeoaalbmaa
open Go.RowKit

theorem pairs_two (x y : Int) (r : List Int) : pairs (x :: y :: r) = nd x y :: pairs r := by
  unfold pairs
  rw [show (x :: y :: r).length / 2 = r.length / 2 + 1 by simp; omega, List.range_succ_eq_map, List.map_cons, List.map_map]
  congr 1
theorem upR_two (x y : Int) (r : List Int) : upR (x :: y :: r) = nd x y :: upR r := by
  unfold upR
  rw [pairs_two, List.cons_append]
  congr 1
  congr 1
  by_cases h : r.length % 2 = 1
  · rw [if_pos h, if_pos (by simp; omega)]
    obtain ⟨z, s, rfl⟩ : ∃ z s, r = z :: s := by
      cases r with
      | nil => simp at h
      | cons z s => exact ⟨z, s, rfl⟩
    simp
  · rw [if_neg h, if_neg (by simp; omega)]
theorem upR_one (x : Int) : upR [x] = [x] := by simp [upR, pairs]
theorem upR_nil : upR [] = [] := by simp [upR, pairs]
theorem upR_app : ∀ (n : Nat) (a b : List Int), a.length = 2 * n → upR (a ++ b) = upR a ++ upR b
  | 0, a, b, h => by
    obtain rfl : a = [] := List.length_eq_zero_iff.1 (by omega)
    rw [upR_nil]; rfl
  | n + 1, a, b, h => by
    match a, h with
    | x :: y :: r, h =>
      rw [List.cons_append, List.cons_append, upR_two, upR_two, upR_app n r b (by simp at h; omega)]
      rfl
theorem rtT_up {row : List Int} (h : 1 < row.length) : rtT row = rtT (upR row) := by
  unfold rtT
  rw [rowsT_more h]
  have hn : upR row ≠ [] := by
    intro e
    have := upR_len row
    rw [e] at this
    simp at this
    omega
  obtain ⟨x, hx, -⟩ := rowsT_last hn
  cases hr : rowsT (upR row) with
  | nil => rw [hr] at hx; cases hx
  | cons y s => rfl
theorem rtT_one (x : Int) : rtT [x] = x := rfl
theorem rtT_one' {row : List Int} (h : row.length = 1) : rtT row = row.getD 0 0 := by
  obtain ⟨x, rfl⟩ := List.length_eq_one_iff.1 h
  rfl
/-- The root of as many as a power of 2, and of as many or fewer after them. -/
theorem rtT_split : ∀ (k : Nat) (a b : List Int), a.length = 2 ^ k → 1 ≤ b.length → b.length ≤ 2 ^ k → rtT (a ++ b) = nd (rtT a) (rtT b)
  | 0, a, b, ha, h1, h2 => by
    obtain ⟨x, rfl⟩ := List.length_eq_one_iff.1 (show a.length = 1 by simpa using ha)
    obtain ⟨y, rfl⟩ := List.length_eq_one_iff.1 (show b.length = 1 by omega)
    rw [show [x] ++ [y] = [x, y] from rfl, rtT_up (by simp), upR_two, upR_nil, rtT_one, rtT_one, rtT_one]
  | k + 1, a, b, ha, h1, h2 => by
    rw [Nat.pow_succ] at ha h2
    have hp : 0 < 2 ^ k := Nat.two_pow_pos k
    rw [rtT_up (by rw [List.length_append]; omega), upR_app (2 ^ k) a b (by omega), rtT_split k (upR a) (upR b) (by rw [upR_len]; omega) (by rw [upR_len]; omega) (by rw [upR_len]; omega), ← rtT_up (by omega : 1 < a.length)]
    by_cases hb : b.length = 1
    · obtain ⟨y, rfl⟩ := List.length_eq_one_iff.1 hb
      rw [upR_one]
    · rw [← rtT_up (by omega : 1 < b.length)]
theorem upR_get : ∀ (j : Nat) (row : List Int), 2 * j < row.length → (upR row).getD j 0 = if 2 * j + 1 < row.length then nd (row.getD (2 * j) 0) (row.getD (2 * j + 1) 0) else row.getD (2 * j) 0
  | 0, row, h => by
    match row, h with
    | [x], _ => rw [upR_one]; rfl
    | x :: y :: r, _ => rw [upR_two]; simp
  | j + 1, row, h => by
    match row, h with
    | x :: y :: r, h =>
      rw [upR_two, List.getD_cons_succ, upR_get j r (by simp at h; omega)]
      have e : 2 * (j + 1) = 2 * j + 1 + 1 := by omega
      rw [e, List.getD_cons_succ, List.getD_cons_succ, List.getD_cons_succ, List.getD_cons_succ]
      by_cases g : 2 * j + 1 < r.length
      · rw [if_pos g, if_pos (by simp; omega)]
      · rw [if_neg g, if_neg (by simp; omega)]
/-- Digests. -/
def InD (x : Int) : Prop := 0 ≤ x ∧ x < 2147483647
theorem nd_in (x y : Int) : InD (nd x y) := Dg_bd _
theorem lf_in (l : List Int) : InD (lf l) := Dg_bd _
theorem upR_in : ∀ (n : Nat) (row : List Int), row.length ≤ n → (∀ x ∈ row, InD x) → ∀ x ∈ upR row, InD x
  | 0, row, h, hi, x, hx => by
    obtain rfl : row = [] := List.length_eq_zero_iff.1 (by omega)
    rw [upR_nil] at hx
    cases hx
  | n + 1, row, h, hi, x, hx => by
    match row, h with
    | [], _ => rw [upR_nil] at hx; cases hx
    | [y], _ => rw [upR_one] at hx; exact hi x hx
    | y :: z :: r, h =>
      rw [upR_two] at hx
      rcases List.mem_cons.1 hx with rfl | hx
      · exact nd_in _ _
      · exact upR_in n r (by simp at h; omega) (fun q hq => hi q (by simp [hq])) x hx
theorem get_in {row : List Int} (h : ∀ x ∈ row, InD x) {i : Nat} (hi : i < row.length) : InD (row.getD i 0) := by
  have : row.getD i 0 = row[i] := by simp [hi]
  rw [this]
  exact h _ (List.getElem_mem hi)
/-- One step of a climb beside its row. -/
theorem step_row {row : List Int} (hr : ∀ x ∈ row, InD x) {i : Nat} (hi : i < row.length) (s : St) (h1 : s.i = i) (h2 : s.h = row.getD i 0) : (stN s (oth row i)).i = (i / 2 : Nat) ∧ (stN s (oth row i)).h = (upR row).getD (i / 2) 0 := by
  refine ⟨by rw [stN_i, h1]; omega, ?_⟩
  rw [upR_get (i / 2) row (by omega)]
  unfold oth sib
  by_cases ho : i % 2 = 1
  · rw [if_pos ho, if_pos (by omega)]
    have hx := get_in hr (show i - 1 < row.length by omega)
    unfold stN
    rw [if_neg (by have := hx.1; omega), if_pos (by rw [h1]; omega), if_pos (by omega)]
    simp only []
    rw [h2, show 2 * (i / 2) = i - 1 by omega, show i - 1 + 1 = i by omega]
  · rw [if_neg ho]
    by_cases hl : i + 1 < row.length
    · rw [if_pos hl]
      have hx := get_in hr hl
      unfold stN
      rw [if_neg (by have := hx.1; omega), if_neg (by rw [h1]; omega), if_pos (by omega)]
      simp only []
      rw [h2, show 2 * (i / 2) = i by omega]
    · rw [if_neg hl, if_neg (by omega)]
      unfold stN
      rw [if_pos rfl]
      simp only []
      rw [h2, show 2 * (i / 2) = i by omega]
/-- Climbing along a path yields the root. -/
theorem climb_root : ∀ (n : Nat) (row : List Int), row.length ≤ n → (∀ x ∈ row, InD x) → ∀ (i : Nat), i < row.length → ∀ (s : St), s.i = i → s.h = row.getD i 0 → ((pthL (rowsT row) i).foldl stN s).h = rtT row
  | 0, row, h, _, i, hi, _, _, _ => by omega
  | n + 1, row, h, hr, i, hi, s, h1, h2 => by
    by_cases g : 1 < row.length
    · rw [rowsT_more g, pthL, if_neg (by omega), List.foldl_cons, rtT_up g]
      obtain ⟨e1, e2⟩ := step_row hr hi s h1 h2
      exact climb_root n (upR row) (by rw [upR_len]; omega) (upR_in _ row (Nat.le_refl _) hr) (i / 2) (by rw [upR_len]; omega) _ e1 e2
    · rw [rowsT_one (by omega), pthL, if_pos (by omega), List.foldl_nil, h2, rtT_one' (by omega), show i = 0 by omega]
/-- How often a number can be halved, rounded up, until it is 1. -/
def hlv : Nat → Nat → Nat
  | 0, _ => 0
  | f + 1, n => if 1 < n then hlv f ((n + 1) / 2) + 1 else 0
theorem path_len : ∀ (f : Nat) (row : List Int) (i : Nat), row.length ≤ f → (pthL (rowsT row) i).length = hlv f row.length
  | 0, row, i, h => by
    obtain rfl : row = [] := List.length_eq_zero_iff.1 (by omega)
    rfl
  | f + 1, row, i, h => by
    by_cases g : 1 < row.length
    · rw [rowsT_more g, pthL, if_neg (by omega), List.length_cons, path_len f (upR row) (i / 2) (by rw [upR_len]; omega), upR_len, hlv, if_pos g]
    · rw [hlv, if_neg g]
      by_cases g1 : row.length = 1
      · rw [rowsT_one g1, pthL, if_pos g1]; rfl
      · obtain rfl : row = [] := List.length_eq_zero_iff.1 (by omega)
        rfl
theorem path_in_range : ∀ (n : Nat) (row : List Int), row.length ≤ n → (∀ x ∈ row, InD x) → ∀ (i : Nat), ∀ y ∈ pthL (rowsT row) i, -1 ≤ y ∧ y < 2147483647
  | 0, row, h, _, i, y, hy => by
    obtain rfl : row = [] := List.length_eq_zero_iff.1 (by omega)
    cases hy
  | n + 1, row, h, hr, i, y, hy => by
    by_cases g : 1 < row.length
    · rw [rowsT_more g, pthL, if_neg (by omega)] at hy
      rcases List.mem_cons.1 hy with rfl | hy
      · unfold oth
        by_cases hs : sib i < row.length
        · rw [if_pos hs]
          have := get_in hr hs
          unfold InD at this
          omega
        · rw [if_neg hs]; omega
      · exact path_in_range n (upR row) (by rw [upR_len]; omega) (upR_in _ row (Nat.le_refl _) hr) (i / 2) y hy
    · by_cases g1 : row.length = 1
      · rw [rowsT_one g1, pthL, if_pos g1] at hy; cases hy
      · obtain rfl : row = [] := List.length_eq_zero_iff.1 (by omega)
        cases hy
theorem stK_fold (l : List Int) (i : Int) (p : List Int) : ∀ k, k ≤ p.length → stK l i p k = (p.take k).foldl stN ⟨i, lf l, [l, [0, Dg l]]⟩
  | 0, _ => rfl
  | k + 1, h => by
    rw [show stK l i p (k + 1) = stN (stK l i p k) (p.getD k 0) from rfl, stK_fold l i p k (by omega), List.take_succ_eq_append_getElem (by omega), List.foldl_append]
    simp [show k < p.length by omega]
theorem stK_all (l : List Int) (i : Int) (p : List Int) : stK l i p p.length = p.foldl stN ⟨i, lf l, [l, [0, Dg l]]⟩ := by
  rw [stK_fold l i p p.length (Nat.le_refl _), List.take_length]
theorem lvs_in (L : List (List Int)) : ∀ x ∈ lvs L, InD x := fun x hx => by
  obtain ⟨l, -, rfl⟩ := List.mem_map.1 hx
  exact lf_in l
theorem hlv_le : ∀ (f n : Nat), n ≤ 64 → hlv f n ≤ 6
  | 0, _, _ => by simp [hlv]
  | f + 1, n, h => by
    have key : ∀ (f n k : Nat), n ≤ 2 ^ k → hlv f n ≤ k := by
      intro f
      induction f with
      | zero => intro n k _; simp [hlv]
      | succ f ih =>
        intro n k hk
        unfold hlv
        by_cases g : 1 < n
        · rw [if_pos g]
          cases k with
          | zero => omega
          | succ k =>
            rw [Nat.pow_succ] at hk
            have := ih ((n + 1) / 2) k (by omega)
            omega
        · rw [if_neg g]; omega
    exact key (f + 1) n 6 (by omega)
/-- What 'Climb' leaves along a tree's own path. -/
theorem climb_of {L : List (List Int)} {l : List Int} {i : Nat} (hi : i < L.length) (h : L.length ≤ 60) (hl : (lvs L).getD i 0 = lf l) : clB i (pthL (rowsT (lvs L)) i) = false ∧ clH l i (pthL (rowsT (lvs L)) i) = rtL L := by
  have hb : clB i (pthL (rowsT (lvs L)) i) = false := by
    unfold clB
    rw [Bool.or_eq_false_iff, Bool.or_eq_false_iff, decide_eq_false_iff_not, decide_eq_false_iff_not]
    refine ⟨by omega, ?_, ?_⟩
    · rw [path_len (lvs L).length (lvs L) i (Nat.le_refl _)]
      have := hlv_le (lvs L).length (lvs L).length (by rw [lvs_len]; omega)
      omega
    · rw [List.any_eq_false]
      intro x hx
      have := path_in_range _ (lvs L) (Nat.le_refl _) (lvs_in L) i x hx
      unfold noEl
      simp
      omega
  refine ⟨hb, ?_⟩
  unfold clH rtL
  rw [hb, if_neg (by decide), if_neg (by omega), stK_all]
  exact climb_root _ (lvs L) (Nat.le_refl _) (lvs_in L) i (by rw [lvs_len]; exact hi) _ rfl hl.symm
end Go.Proofs.Ytiiehoeoaalbmaa
