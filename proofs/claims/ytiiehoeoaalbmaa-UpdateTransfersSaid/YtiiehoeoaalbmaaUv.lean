/- Updates: a piece that is proved is the one with its index, or two lists have the same digest. -/
import Derived.Test.YtiiehoeoaalbmaaUl
import Derived.Test.YtiiehoeoaalbmaaTh
import Derived.Test.YtiiehoeoaalbmaaLb
namespace Go.Proofs.Ytiiehoeoaalbmaa
open Go.RowKit

theorem fmOK_cons {a : Bool} {fs : List Bool} {p : List Int} (h : fmOK (a :: fs) p = true) : ∃ x q, p = x :: q ∧ chkB a x = true ∧ fmOK fs q = true := by
  unfold fmOK at h
  rw [Bool.and_eq_true, decide_eq_true_eq, List.all_eq_true] at h
  obtain ⟨h1, h2⟩ := h
  cases p with
  | nil => simp at h1
  | cons x q =>
    refine ⟨x, q, rfl, by simpa using h2 0 (List.mem_range.2 (by simp)), ?_⟩
    unfold fmOK
    rw [Bool.and_eq_true, decide_eq_true_eq, List.all_eq_true]
    refine ⟨by simpa using h1, fun j hj => ?_⟩
    have := h2 (j + 1) (List.mem_range.2 (by simp; have := List.mem_range.1 hj; omega))
    simpa using this
theorem fmOK_nil {p : List Int} (h : fmOK [] p = true) : p = [] := by
  cases p with
  | nil => rfl
  | cons x q => simp [fmOK] at h
theorem stN_mem {s : St} {x : Int} {y : List Int} (h : y ∈ s.L) : y ∈ (stN s x).L := by
  unfold stN
  split
  · exact h
  · split <;> simp [h]
theorem fold_mem : ∀ (p : List Int) (s : St) {y : List Int}, y ∈ s.L → y ∈ (p.foldl stN s).L
  | [], _, _, h => h
  | x :: p, s, _, h => fold_mem p (stN s x) (stN_mem h)
theorem prs_mem : ∀ (j : Nat) (row : List Int), 2 * j + 1 < row.length → [1, row.getD (2 * j) 0, row.getD (2 * j + 1) 0] ∈ prs row
  | 0, row, h => by
    match row, h with
    | x :: y :: r, _ => simp [prs]
  | j + 1, row, h => by
    match row, h with
    | x :: y :: r, h =>
      have := prs_mem j r (by simp at h; omega)
      have e : 2 * (j + 1) = 2 * j + 1 + 1 := by omega
      rw [e, List.getD_cons_succ, List.getD_cons_succ, List.getD_cons_succ, List.getD_cons_succ]
      exact List.mem_cons_of_mem _ this
theorem chk_alone {x : Int} (h : chkB true x = true) : x = -1 := by
  unfold chkB at h
  simp at h
  exact h
theorem chk_other {x : Int} (h : chkB false x = true) : x ≠ -1 := by
  unfold chkB at h
  simp at h
  exact h.1
theorem climb_idx {T : List (List Int)} : ∀ (f : Nat) (row : List Int) (i : Nat) (p : List Int) (s : St), row.length ≤ f → i < row.length → s.i = i → fmOK (fmF f i row.length) p = true → (p.foldl stN s).h = rtT row → (∀ y ∈ allP (rowsT row), y ∈ T) → s.h = row.getD i 0 ∨ Cld ((p.foldl stN s).L ++ T)
  | 0, row, i, _, _, h, hi, _, _, _, _ => by omega
  | f + 1, row, i, p, s, h, hi, hs, hf, hr, hT => by
    by_cases g : 1 < row.length
    · rw [fmF_step g h] at hf
      obtain ⟨x, q, rfl, hx, hq⟩ := fmOK_cons hf
      rw [rowsT_more g] at hT
      rw [rtT_up g] at hr
      have hl := upR_len row
      rw [Nat.add_sub_cancel, ← hl] at hq
      have IH := climb_idx f (upR row) (i / 2) q (stN s x) (by omega) (by omega) (by rw [stN_i, hs]; omega) hq hr (fun y hy => hT y (by simp [allP, hy]))
      rcases IH with e | c
      · rw [upR_get (i / 2) row (by omega)] at e
        by_cases a : i = row.length - 1 ∧ row.length % 2 = 1
        · rw [decide_eq_true a.1, decide_eq_true a.2] at hx
          have hx1 := chk_alone hx
          subst hx1
          rw [if_neg (by omega)] at e
          left
          rw [show i = 2 * (i / 2) by omega]
          exact e
        · have hb : (decide (i = row.length - 1) && decide (row.length % 2 = 1)) = false := by
            cases q1 : (decide (i = row.length - 1) && decide (row.length % 2 = 1))
            · rfl
            · rw [Bool.and_eq_true, decide_eq_true_eq, decide_eq_true_eq] at q1
              exact absurd q1 a
          rw [hb] at hx
          have hx1 := chk_other hx
          have hj : 2 * (i / 2) + 1 < row.length := by omega
          rw [if_pos hj] at e
          have m2 : [1, row.getD (2 * (i / 2)) 0, row.getD (2 * (i / 2) + 1) 0] ∈ T := hT _ (List.mem_append.2 (.inl (prs_mem _ row hj)))
          by_cases o : i % 2 = 1
          · have hL : [1, x, s.h] ∈ (stN s x).L := by
              unfold stN
              rw [if_neg hx1, if_pos (by rw [hs]; omega)]
              simp
            have hh : (stN s x).h = nd x s.h := by
              unfold stN
              rw [if_neg hx1, if_pos (by rw [hs]; omega)]
            rw [hh] at e
            by_cases d : [1, x, s.h] = [1, row.getD (2 * (i / 2)) 0, row.getD (2 * (i / 2) + 1) 0]
            · left
              simp only [List.cons.injEq, true_and, and_true] at d
              rw [d.2]
              congr 1
              omega
            · right
              exact cld_mem (List.mem_append.2 (.inl (fold_mem q _ hL))) (List.mem_append.2 (.inr m2)) d e
          · have hL : [1, s.h, x] ∈ (stN s x).L := by
              unfold stN
              rw [if_neg hx1, if_neg (by rw [hs]; omega)]
              simp
            have hh : (stN s x).h = nd s.h x := by
              unfold stN
              rw [if_neg hx1, if_neg (by rw [hs]; omega)]
            rw [hh] at e
            by_cases d : [1, s.h, x] = [1, row.getD (2 * (i / 2)) 0, row.getD (2 * (i / 2) + 1) 0]
            · left
              simp only [List.cons.injEq, true_and, and_true] at d
              rw [d.1]
              congr 1
              omega
            · right
              exact cld_mem (List.mem_append.2 (.inl (fold_mem q _ hL))) (List.mem_append.2 (.inr m2)) d e
      · right
        exact c
    · have h1 : row.length = 1 := by omega
      rw [fmF_end (by omega)] at hf
      have hp := fmOK_nil hf
      subst hp
      left
      have : i = 0 := by omega
      subst this
      rw [← rtT_one' h1]
      exact hr
/-- What law UpdateForged says of a proved piece. -/
theorem forged_facts {L : List (List Int)} {d p : List Int} {i : Nat} (hi : i < L.length) (h64 : L.length ≤ 64) (hf : fmOK (fmL i L.length) p = true) (hb : clB i p = false) (hc : clH d i p = rtL L) : d = L.getD i [] ∨ Cld (clL d i p ++ trL L) := by
  unfold clH rtL at hc
  rw [hb, if_neg (by decide), if_neg (by omega), stK_all] at hc
  have hl : (lvs L).length = L.length := lvs_len L
  have m1 : d ∈ clL d i p := by
    unfold clL
    rw [hb, if_neg (by decide), stK_all]
    exact fold_mem p _ (by simp)
  have m2 : [0, Dg d] ∈ clL d i p := by
    unfold clL
    rw [hb, if_neg (by decide), stK_all]
    exact fold_mem p _ (by simp)
  have hm : L.getD i [] ∈ L := by simp [List.getD_eq_getElem?_getD, hi]
  have t1 : L.getD i [] ∈ trL L := List.mem_append.2 (.inl (List.mem_flatMap.2 ⟨_, hm, by simp⟩))
  have t2 : [0, Dg (L.getD i [])] ∈ trL L := List.mem_append.2 (.inl (List.mem_flatMap.2 ⟨_, hm, by simp⟩))
  have hcl : clL d i p = (p.foldl stN ⟨i, lf d, [d, [0, Dg d]]⟩).L := by
    unfold clL
    rw [hb, if_neg (by decide), stK_all]
  rcases climb_idx (T := trL L) L.length (lvs L) i p ⟨i, lf d, [d, [0, Dg d]]⟩ (by omega) (by omega) rfl (by rw [hl]; exact hf) hc (fun y hy => List.mem_append.2 (.inr hy)) with e | c
  · rw [lvs_get hi] at e
    have e2 : Dg [0, Dg d] = Dg [0, Dg (L.getD i [])] := e
    by_cases q : Dg d = Dg (L.getD i [])
    · by_cases q2 : d = L.getD i []
      · exact .inl q2
      · exact .inr (cld_mem (List.mem_append.2 (.inl m1)) (List.mem_append.2 (.inr t1)) q2 q)
    · exact .inr (cld_mem (List.mem_append.2 (.inl m2)) (List.mem_append.2 (.inr t2)) (fun x => q (by simpa using x)) e2)
  · right
    rw [hcl]
    exact c
end Go.Proofs.Ytiiehoeoaalbmaa
