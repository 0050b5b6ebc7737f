/- Quiet hours: how changes follow each other; lists of changes appended. -/
import Derived.Test.YtmejpmnipejpiaaHt
namespace Go.Proofs.Ytmejpmnipejpiaa
open Go.RowKit

/-- The last value. -/
def lastB (b : Bool) (l : List (Int × Bool)) : Bool := match l.getLast? with | some p => p.2 | none => b
theorem lastB_snoc (b : Bool) (l : List (Int × Bool)) (p : Int × Bool) : lastB b (l ++ [p]) = p.2 := by simp [lastB]
theorem lastB_nil (b : Bool) : lastB b [] = b := rfl
theorem lastB_at (b : Bool) (l : List (Int × Bool)) {k : Nat} (h : l.length = k + 1) : lastB b l = (l.getD k (0, false)).2 := by
  have hne : l ≠ [] := by intro e; rw [e] at h; simp at h
  have := List.getLast?_eq_getElem? (l := l)
  unfold lastB
  rw [this, h, Nat.add_sub_cancel, List.getD_eq_getElem?_getD, List.getElem?_eq_getElem (by omega)]
  rfl
theorem chs_last (g : Int → Bool) (m : Int) : ∀ n : Nat, lastB (g m) (chs g m n) = g (m + n)
  | 0 => by simp [chs, lastB]
  | n + 1 => by
    cases h : chg g m n
    · rw [chs_no h, chs_last g m n, ← chg_false h]
      congr 1
      omega
    · rw [chs_yes h, lastB_snoc]
      show g (m + n + 1) = _
      congr 1
      omega
theorem chs_next (g : Int → Bool) (m : Int) : ∀ n i : Nat, i + 1 < (chs g m n).length → ((chs g m n).getD i (0, false)).1 < ((chs g m n).getD (i + 1) (0, false)).1 ∧ ((chs g m n).getD i (0, false)).2 ≠ ((chs g m n).getD (i + 1) (0, false)).2
  | 0, i, h => by simp [chs] at h
  | n + 1, i, h => by
    cases hc : chg g m n
    · rw [chs_no hc] at h ⊢
      exact chs_next g m n i h
    · rw [chs_yes hc] at h ⊢
      rw [List.length_append, List.length_singleton] at h
      have e0 : (chs g m n ++ [(m + n + 1, g (m + n + 1))]).getD i (0, false) = (chs g m n).getD i (0, false) := by
        rw [List.getD_eq_getElem?_getD, List.getElem?_append_left (by omega), ← List.getD_eq_getElem?_getD]
      rw [e0]
      by_cases hi : i + 1 < (chs g m n).length
      · rw [List.getD_eq_getElem?_getD (l := chs g m n ++ _), List.getElem?_append_left hi, ← List.getD_eq_getElem?_getD]
        exact chs_next g m n i hi
      · have hl : (chs g m n).length = i + 1 := by omega
        have e1 : (chs g m n ++ [(m + n + 1, g (m + n + 1))]).getD (i + 1) (0, false) = (m + n + 1, g (m + n + 1)) := by
          rw [List.getD_eq_getElem?_getD, List.getElem?_append_right (by omega), hl]; simp
        rw [e1]
        have hm : (chs g m n).getD i (0, false) ∈ chs g m n := by
          rw [List.getD_eq_getElem?_getD, List.getElem?_eq_getElem (by omega)]
          exact List.getElem_mem (by omega)
        have h1 := (chs_mem hm).2.1
        have h2 := lastB_at (g m) _ hl
        rw [chs_last] at h2
        refine ⟨by show _ < m + n + 1; omega, ?_⟩
        rw [← h2]
        exact fun e => chg_true hc e.symm
theorem chs_first (g : Int → Bool) (m : Int) : ∀ n : Nat, 0 < (chs g m n).length → ((chs g m n).getD 0 (0, false)).2 ≠ g m
  | 0, h => by simp [chs] at h
  | n + 1, h => by
    cases hc : chg g m n
    · rw [chs_no hc] at h ⊢
      exact chs_first g m n h
    · rw [chs_yes hc]
      by_cases h0 : 0 < (chs g m n).length
      · rw [List.getD_eq_getElem?_getD, List.getElem?_append_left h0, ← List.getD_eq_getElem?_getD]
        exact chs_first g m n h0
      · have he : chs g m n = [] := List.length_eq_zero_iff.1 (by omega)
        have hl := chs_last g m n
        rw [he, lastB_nil] at hl
        rw [he, hl]
        exact chg_true hc
/-- Where the changes up to a minute end. -/
theorem chs_till {g : Int → Bool} {m : Int} {n r k : Nat} (hr : r ≤ n) (hk : k ≤ (chs g m n).length) (h1 : ∀ j, j < k → ((chs g m n).getD j (0, false)).1 ≤ m + r) (h2 : k < (chs g m n).length → ¬ ((chs g m n).getD k (0, false)).1 ≤ m + r) : lastB (g m) ((chs g m n).take k) = g (m + r) := by
  obtain ⟨d, rfl⟩ : ∃ d, n = r + d := ⟨n - r, by omega⟩
  rw [chs_add] at hk h1 h2 ⊢
  have hl : k = (chs g m r).length := by
    rw [List.length_append] at hk h2
    rcases Nat.lt_trichotomy k (chs g m r).length with h | h | h
    · have h3 := h2 (by omega)
      rw [List.getD_eq_getElem?_getD, List.getElem?_append_left h, ← List.getD_eq_getElem?_getD] at h3
      have hm : (chs g m r).getD k (0, false) ∈ chs g m r := by
        rw [List.getD_eq_getElem?_getD, List.getElem?_eq_getElem h]
        exact List.getElem_mem h
      exact absurd (chs_mem hm).2.1 h3
    · exact h
    · have h3 := h1 (chs g m r).length h
      have hd : 0 < (chs g (m + r) d).length := by omega
      rw [List.getD_eq_getElem?_getD, List.getElem?_append_right (Nat.le_refl _), Nat.sub_self, ← List.getD_eq_getElem?_getD] at h3
      have hm : (chs g (m + r) d).getD 0 (0, false) ∈ chs g (m + r) d := by
        rw [List.getD_eq_getElem?_getD, List.getElem?_eq_getElem hd]
        exact List.getElem_mem hd
      have := (chs_mem hm).1
      omega
  rw [hl, List.take_left]
  exact chs_last g m r
theorem take_one {l : List (Int × Bool)} {k : Nat} (h : k < l.length) : l.take (k + 1) = l.take k ++ [l.getD k (0, false)] := by
  rw [List.take_succ_eq_append_getElem h]; simp [h]
theorem ccs_len (l : List (Int × Bool)) : (ccs l).length = l.length * 2 := by
  induction l with
  | nil => rfl
  | cons x l ih => simp [ccs] at ih ⊢; omega
theorem ccs_app (a b : List (Int × Bool)) : ccs (a ++ b) = ccs a ++ ccs b := by simp [ccs]
theorem ccs_one (l : List (Int × Bool)) : ∀ u ∈ ccs l, u.oneCell' = true := by
  intro u hu
  unfold ccs at hu
  rw [List.mem_flatMap] at hu
  obtain ⟨x, -, hx⟩ := hu
  simp only [List.mem_cons, List.not_mem_nil, or_false] at hx
  rcases hx with rfl | rfl <;> rfl
theorem ccs_cells {w : World} {a : Option Addr} {cap : Nat} {l : List (Int × Bool)} (h : ChsAt w (.slice a l.length cap) l) (ad : Addr) (ha : a = some ad) : ∀ j u, (ccs l)[j]? = some u → w.cell? (ad.add j) = some u := by
  intro j u hu
  obtain ⟨a', cap', he, -, -, hc⟩ := h
  obtain ⟨rfl, rfl⟩ : a = a' ∧ cap = cap' := by simpa using he
  have hj : j < (ccs l).length := (List.getElem?_eq_some_iff.1 hu).1
  rw [ccs_len] at hj
  have hi : j / 2 < l.length := by omega
  have hg := ccs_get l (j / 2) _ (win_get (d := (0, false)) hi) (j % 2) (by omega)
  rw [show j / 2 * 2 + j % 2 = j by omega, hu] at hg
  obtain ⟨b', off', ha', hx⟩ := hc (by intro e; rw [e] at hi; simp at hi)
  rw [ha] at ha'
  obtain rfl : ad = ⟨b', off', none⟩ := by simpa using ha'
  obtain ⟨c0, c1⟩ := hx (j / 2) _ (win_get (d := (0, false)) hi)
  rw [Go.WideShapes.add_plain]
  rcases (show j % 2 = 0 ∨ j % 2 = 1 by omega) with h2 | h2
  · rw [h2] at hg
    rw [show off' + j = off' + j / 2 * 2 by omega, c0]
    simpa using hg.symm
  · rw [h2] at hg
    rw [show off' + j = off' + j / 2 * 2 + 1 by omega, c1]
    simpa using hg.symm
/-- An append of changes that may be none, as an equation. -/
theorem run_appC (w : World) (base : Nat) (v sl : Value) (xs l : List (Int × Bool)) (ty : TypeId) (hown : RowC base v xs w) (h : ChsAt w sl l) (hn : xs.length + l.length ≤ 100000) (hb : base ≤ w.heap.size) :
    ∃ v' w', (Builtin.append_ #[29, 29] ty #[v, sl]).run Try.prog w = .ok v' w' ∧ RowC base v' (xs ++ l) w' ∧ w.grownBy w' v.ownBlock := by
  obtain ⟨i0, hi, hz0, hz1, hz2⟩ := info_parts info37
  obtain ⟨a, cap, rfl, hk, hm, hc⟩ := h
  cases a with
  | none =>
    have hl : l = [] := by
      cases l with
      | nil => rfl
      | cons x l => obtain ⟨b, off, e, -⟩ := hc (by simp); cases e
    subst hl
    have hg : w.grownBy w v.ownBlock := ⟨rfl, rfl, rfl, Nat.le_refl _, fun _ _ _ => rfl⟩
    refine ⟨v, w, ?_, by simpa using hown, hg⟩
    unfold RowC at hown
    rcases hown.2 with ⟨rfl, -⟩ | ⟨g, c, cur, rfl, _, _, hnc, _⟩
    · simp [Builtin.append_, run_underlying Try.underlying29, sizeOf, typeInfo, hi, Builtin.lenOf, Builtin.firstCells]
    · simp [Builtin.append_, run_underlying Try.underlying29, sizeOf, typeInfo, hi, Builtin.lenOf, Builtin.firstCells, hnc, storeCells]
  | some ad =>
    have hcell := ccs_cells (w := w) (a := some ad) (cap := cap) (l := l) ⟨some ad, cap, rfl, hk, hm, hc⟩ ad rfl
    obtain ⟨v', w', h1, h2, h3, -, -⟩ := run_append_own_at (P := Try.prog) w base 29 ty 37 i0 _ 2 16 Try.underlying29 hi hz0 hz1 hz2 rfl (by decide) v xs.length (ccs xs) hown ad l.length cap (ccs l) (ccs_len l) hcell (ccs_one l) (by unfold maxLen; omega) (by omega) hb
    exact ⟨v', w', h1, by unfold RowC; rw [List.length_append, ccs_app]; exact h2, h3⟩
theorem rowC0 (w : World) : RowC w.heap.size (.slice (some ⟨w.heap.size, 0, none⟩) 0 0) [] (w.alloc (.cells #[] 37)) :=
  ⟨rfl, .inr ⟨w.heap.size, 0, _, rfl, Nat.le_refl _, heap_alloc_new _ _, by simp, by unfold maxLen; simp, rfl, rfl⟩⟩
theorem wpList_app {ops : Array Oper} {rest : List Oper} {o : Oper} {a : Act} {w w' : World} {Q : Exit → Act → World → Prop} (hgd : o.guard = none) (s x : Operand) (t : TypeId)
    (ho : o.op = .call { callee := .builtin .append, args := #[s, x], argTypes := #[t, t] }) (v sl v' : Value) (hs : a.eval s = v) (hx : a.eval x = sl)
    (hr : (Builtin.append_ #[t, t] o.type #[v, sl]).run Try.prog w = .ok v' w') (h : wpList Try.prog ops Q rest (a.put o.dst v') w') : wpList Try.prog ops Q (o :: rest) a w := by
  refine wpList_step fun K hK => ?_
  rw [if_pos (by simp [Region.wanted, hgd])]
  unfold Oper.wp execOp
  simp only [ho, resolve, invoke, builtin, Sem.run_bind, Sem.run_pure, Result.andThen_ok, List.map_toArray, List.map_cons, List.map_nil, hs, hx, hr]
  exact hK _ _ h
end Go.Proofs.Ytmejpmnipejpiaa
