/- Shedding: the law of steps, plainly. -/
import Derived.Test.YtpablikcidlkaaaTe
namespace Go.Proofs.Ytpablikcidlkaaa
open Go.RowKit

theorem kfo_congr (l : List (Int × Int)) (lim lim' : Nat → Int) (pre : List Nat) (h : ∀ i ∈ pre, lim i = lim' i) : kfo l lim pre = kfo l lim' pre := by
  unfold kfo
  suffices ∀ st : Int × List Bool, pre.foldl (kst l lim) st = pre.foldl (kst l lim') st from this _
  induction pre with
  | nil => intro st; rfl
  | cons y pre ih =>
    intro st
    have e : kst l lim st y = kst l lim' st y := by unfold kst; rw [h y (by simp)]
    rw [List.foldl_cons, List.foldl_cons, e]
    exact ih (fun i hi => h i (by simp [hi])) _
theorem kp_congr (l : List (Int × Int)) (lim lim' : Nat → Int) (h : ∀ i, i < l.length → lim i = lim' i) : kpL l lim = kpL l lim' := by
  unfold kpL
  rw [kfo_congr l lim lim' _ fun i hi => h i ((ord_is (pri l) l.length).mem hi).2]
theorem step_zero (l : List (Int × Int)) (bf : List Bool) (x : Int) : kpL l (lim2 bf x 0) = kpL l fun _ => x :=
  kp_congr l _ _ fun i _ => by unfold lim2; split <;> omega
theorem step_all (l : List (Int × Int)) (x M : Int) : kpL l (lim2 (List.replicate l.length true) x M) = kpL l fun _ => x :=
  kp_congr l _ _ fun i hi => by
    unfold lim2
    rw [if_pos (by simp [List.getD_eq_getElem?_getD, hi])]
theorem kfo_le2 (l : List (Int × Int)) (lim : Nat → Int) (x : Int) (hx : 0 ≤ x) (hl : ∀ i, lim i ≤ x) (pre : List Nat) : (kfo l lim pre).1 ≤ x := by
  unfold kfo
  suffices ∀ st : Int × List Bool, st.1 ≤ x → (pre.foldl (kst l lim) st).1 ≤ x from this _ hx
  induction pre with
  | nil => intro st h; exact h
  | cons y pre ih =>
    intro st h
    refine ih _ ?_
    unfold kst
    split
    · rename_i hc
      have := hl y
      show st.1 + pow l y ≤ x
      omega
    · exact h
theorem lim2_le (bf : List Bool) (x M : Int) (hM : 0 ≤ M) (i : Nat) : lim2 bf x M i ≤ x := by unfold lim2; split <;> omega
theorem sum_le2 (l : List (Int × Int)) (bf : List Bool) (x M : Int) (hx : 0 ≤ x) (hM : 0 ≤ M) : sumK l (kpL l (lim2 bf x M)) l.length ≤ x := by
  rw [← kept_sum]; exact kfo_le2 l _ x hx (lim2_le bf x M hM) _
/-- Where the margin is above the limit nobody new is kept. -/
theorem none_new (l : List (Int × Int)) (bf : List Bool) (x M : Int) (hM : x < M) (hp : ∀ i, 0 ≤ pow l i ∧ pow l i ≤ 1000000) (i : Nat) (hi : i < l.length) (hb : bf.getD i false = false) : (kpL l (lim2 bf x M)).getD i false = false := by
  have hs := ord_is (pri l) l.length
  have hmem : i ∈ ordL (pri l) l.length := hs.1.symm.subset (by rw [List.mem_range'_1]; omega)
  obtain ⟨pre, post, he⟩ := List.append_of_mem hmem
  have hnd := hs.2.nodup
  rw [he] at hnd
  have hn1 : i ∉ pre := fun hm => (List.nodup_append.1 hnd).2.2 i hm i (by simp) rfl
  have hn2 : i ∉ post := (List.nodup_cons.1 (List.nodup_append.1 hnd).2.1).1
  show ((kfo l (lim2 bf x M) (ordL (pri l) l.length)).2).getD i false = false
  rw [he, kfo_get l _ i pre post hi hn1 hn2]
  apply decide_eq_false
  have h1 := (kfo_sum l (lim2 bf x M) hp pre).1
  have h2 := (hp i).1
  have h3 : lim2 bf x M i = x - M := by unfold lim2; rw [hb]; simp
  rw [h3]
  omega
end Go.Proofs.Ytpablikcidlkaaa
