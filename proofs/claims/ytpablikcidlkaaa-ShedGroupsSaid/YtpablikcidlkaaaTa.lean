/- Shedding: sums of those who are kept, plainly. -/
import Derived.Test.YtpablikcidlkaaaSq
namespace Go.Proofs.Ytpablikcidlkaaa
open Go.RowKit

theorem perm_sum (f : Nat → Int) {a b : List Nat} (h : a.Perm b) : (a.map f).sum = (b.map f).sum := by
  induction h with
  | nil => rfl
  | cons x h ih => simp only [List.map_cons, List.sum_cons, ih]
  | swap x y l => simp only [List.map_cons, List.sum_cons]; omega
  | trans h k ih1 ih2 => rw [ih1, ih2]
def sumK (l : List (Int × Int)) (bf : List Bool) : Nat → Int
  | 0 => 0
  | k + 1 => sumK l bf k + (if bf.getD k false = true then pow l k else 0)
def totK (l : List (Int × Int)) : Nat → Int
  | 0 => 0
  | k + 1 => totK l k + pow l k
def allK (bf : List Bool) : Nat → Bool
  | 0 => true
  | k + 1 => allK bf k && bf.getD k false
theorem sumK_is (l : List (Int × Int)) (bf : List Bool) : ∀ n, ((List.range' 0 n).map fun i => if bf.getD i false = true then pow l i else 0).sum = sumK l bf n
  | 0 => rfl
  | n + 1 => by
    rw [List.range'_1_concat, List.map_append, List.sum_append, sumK_is l bf n, Nat.zero_add]
    simp [sumK]
theorem totK_is (l : List (Int × Int)) : ∀ n, ((List.range' 0 n).map fun i => pow l i).sum = totK l n
  | 0 => rfl
  | n + 1 => by
    rw [List.range'_1_concat, List.map_append, List.sum_append, totK_is l n, Nat.zero_add]
    simp [totK]
theorem kfo_le (l : List (Int × Int)) (x : Int) (hx : 0 ≤ x) (pre : List Nat) : (kfo l (fun _ => x) pre).1 ≤ x := by
  unfold kfo
  suffices ∀ st : Int × List Bool, st.1 ≤ x → (pre.foldl (kst l fun _ => x) st).1 ≤ x from this _ hx
  induction pre with
  | nil => intro st h; exact h
  | cons y pre ih =>
    intro st h
    refine ih _ ?_
    unfold kst
    split
    · rename_i hc; exact hc
    · exact h
/-- The sum is that of those who are kept. -/
theorem kfo_sum_is (l : List (Int × Int)) (lim : Nat → Int) : ∀ (post pre : List Nat), ordL (pri l) l.length = pre ++ post →
    (kfo l lim pre).1 = (pre.map fun i => if (kpL l lim).getD i false = true then pow l i else 0).sum →
    (kfo l lim (pre ++ post)).1 = ((pre ++ post).map fun i => if (kpL l lim).getD i false = true then pow l i else 0).sum
  | [], pre, he, h => by simpa using h
  | y :: post, pre, he, h => by
    have hs := ord_is (pri l) l.length
    have hnd := hs.2.nodup
    have hy : y < l.length := (hs.mem (x := y) (by rw [he]; simp)).2
    rw [he] at hnd
    have hn1 : y ∉ pre := fun hm => (List.nodup_append.1 hnd).2.2 y hm y (by simp) rfl
    have hn2 : y ∉ post := (List.nodup_cons.1 (List.nodup_append.1 hnd).2.1).1
    have hg : (kpL l lim).getD y false = decide ((kfo l lim pre).1 + pow l y ≤ lim y) := by
      show ((kfo l lim (ordL (pri l) l.length)).2).getD y false = _
      rw [he]
      exact kfo_get l _ y pre post hy hn1 hn2
    have e : pre ++ y :: post = (pre ++ [y]) ++ post := by simp
    rw [e]
    refine kfo_sum_is l lim post (pre ++ [y]) (by rw [he]; simp) ?_
    rw [kfo_snoc, List.map_append, List.sum_append, ← h]
    unfold kst
    by_cases hc : (kfo l lim pre).1 + pow l y ≤ lim y
    · rw [if_pos hc]
      simp only [List.map_cons, List.map_nil, List.sum_cons, List.sum_nil]
      rw [hg, decide_eq_true hc]
      simp
    · rw [if_neg hc]
      simp only [List.map_cons, List.map_nil, List.sum_cons, List.sum_nil]
      rw [hg, decide_eq_false hc]
      simp
theorem kept_sum (l : List (Int × Int)) (lim : Nat → Int) : (kfo l lim (ordL (pri l) l.length)).1 = sumK l (kpL l lim) l.length := by
  have := kfo_sum_is l lim (ordL (pri l) l.length) [] rfl rfl
  rw [List.nil_append] at this
  rw [this, perm_sum _ (ord_is (pri l) l.length).1, Nat.sub_zero, sumK_is]
theorem sum_le (l : List (Int × Int)) (x : Int) (hx : 0 ≤ x) : sumK l (kpL l fun _ => x) l.length ≤ x := by
  rw [← kept_sum]; exact kfo_le l x hx _
theorem allK_iff (bf : List Bool) : ∀ n, allK bf n = true ↔ ∀ i, i < n → bf.getD i false = true
  | 0 => by simp [allK]
  | n + 1 => by
    unfold allK
    rw [Bool.and_eq_true, allK_iff bf n]
    constructor
    · rintro ⟨h1, h2⟩ i hi
      by_cases e : i = n
      · subst e; exact h2
      · exact h1 i (by omega)
    · intro h
      exact ⟨fun i hi => h i (by omega), h n (by omega)⟩
theorem sum_all (l : List (Int × Int)) (bf : List Bool) : ∀ n, (∀ i, i < n → bf.getD i false = true) → sumK l bf n = totK l n
  | 0, _ => rfl
  | n + 1, h => by
    unfold sumK totK
    rw [sum_all l bf n (fun i hi => h i (by omega)), if_pos (h n (by omega))]
theorem sum_mono (f g : Nat → Int) (h : ∀ i, f i ≤ g i) : ∀ a : List Nat, (a.map f).sum ≤ (a.map g).sum
  | [] => by simp
  | x :: a => by
    have := sum_mono f g h a
    have := h x
    simp only [List.map_cons, List.sum_cons]
    omega
theorem sum_nonneg (g : Nat → Int) (h : ∀ i, 0 ≤ g i) : ∀ a : List Nat, 0 ≤ (a.map g).sum
  | [] => by simp
  | x :: a => by
    have := sum_nonneg g h a
    have := h x
    simp only [List.map_cons, List.sum_cons]
    omega
theorem kfo_pre_le (l : List (Int × Int)) (lim : Nat → Int) (hp : ∀ i, 0 ≤ pow l i) (pre : List Nat) : (kfo l lim pre).1 ≤ (pre.map fun i => pow l i).sum := by
  unfold kfo
  suffices ∀ st : Int × List Bool, (pre.foldl (kst l lim) st).1 ≤ st.1 + (pre.map fun i => pow l i).sum by
    have := this (0, List.replicate l.length false)
    simpa using this
  induction pre with
  | nil => intro st; simp
  | cons y pre ih =>
    intro st
    have h1 := ih (kst l lim st y)
    have h2 : (kst l lim st y).1 ≤ st.1 + pow l y := by
      have := hp y
      unfold kst
      split
      · exact Int.le_refl _
      · omega
    simp only [List.foldl_cons, List.map_cons, List.sum_cons]
    omega
/-- All are kept just where there is room for all. -/
theorem all_is (l : List (Int × Int)) (x : Int) (hx : 0 ≤ x) (hp : ∀ i, 0 ≤ pow l i) : allK (kpL l fun _ => x) l.length = decide (totK l l.length ≤ x) := by
  by_cases h : totK l l.length ≤ x
  · rw [decide_eq_true h, allK_iff]
    intro i hi
    have hs := ord_is (pri l) l.length
    have hmem : i ∈ ordL (pri l) l.length := hs.1.symm.subset (by rw [List.mem_range'_1]; omega)
    obtain ⟨pre, post, he⟩ := List.append_of_mem hmem
    have hnd := hs.2.nodup
    rw [he] at hnd
    have hn1 : i ∉ pre := fun hm => (List.nodup_append.1 hnd).2.2 i hm i (by simp) rfl
    have hn2 : i ∉ post := (List.nodup_cons.1 (List.nodup_append.1 hnd).2.1).1
    show ((kfo l (fun _ => x) (ordL (pri l) l.length)).2).getD i false = true
    rw [he, kfo_get l _ i pre post hi hn1 hn2]
    apply decide_eq_true
    have h1 := kfo_pre_le l (fun _ => x) hp pre
    have h2 := perm_sum (fun i => pow l i) hs.1
    rw [he, Nat.sub_zero, totK_is, List.map_append, List.sum_append, List.map_cons, List.sum_cons] at h2
    have h3 := sum_nonneg (fun i => pow l i) hp post
    omega
  · rw [decide_eq_false h]
    cases hc : allK (kpL l fun _ => x) l.length with
    | false => rfl
    | true =>
      exfalso
      have h1 := sum_le l x hx
      rw [sum_all l _ _ ((allK_iff _ _).1 hc)] at h1
      exact h h1
end Go.Proofs.Ytpablikcidlkaaa
