/- Hash trees of the reference: 'Lists'; plain facts. -/
import Derived.Test.YtiiehoeoaalbmaaTh
import Derived.Test.YtiiehoeoaalbmaaRb
namespace Go.Proofs.Ytiiehoeoaalbmaa
open Go.RowKit

theorem prs_len : ∀ (n : Nat) (row : List Int), row.length ≤ n → (prs row).length = row.length / 2
  | 0, row, h => by
    obtain rfl : row = [] := List.length_eq_zero_iff.1 (by omega)
    rfl
  | n + 1, row, h => by
    match row, h with
    | [], _ => simp [prs]
    | [y], _ => simp [prs]
    | x :: y :: r, h =>
      have h2 : r.length + 1 + 1 ≤ n + 1 := by simpa using h
      rw [prs, List.length_cons, prs_len n r (by omega), List.length_cons, List.length_cons]
      omega
theorem prs_take : ∀ (j : Nat) (row : List Int), 2 * j + 1 < row.length → (prs row).take (j + 1) = (prs row).take j ++ [[1, row.getD (2 * j) 0, row.getD (2 * j + 1) 0]]
  | 0, row, h => by
    match row, h with
    | x :: y :: r, _ => simp [prs]
  | j + 1, row, h => by
    match row, h with
    | x :: y :: r, h =>
      have e : 2 * (j + 1) = 2 * j + 1 + 1 := by omega
      have h2 : 2 * (j + 1) + 1 < r.length + 1 + 1 := by simpa using h
      rw [prs, List.take_succ_cons, prs_take j r (by omega), e, List.getD_cons_succ, List.getD_cons_succ, List.getD_cons_succ, List.getD_cons_succ, List.take_succ_cons]
      rfl
theorem allP_app (A B : List (List Int)) : allP (A ++ B) = allP A ++ allP B := by
  induction A with
  | nil => rfl
  | cons x r ih => rw [List.cons_append, allP, allP, ih, List.append_assoc]
theorem allP_take {Rs : List (List Int)} {k : Nat} (h : k < Rs.length) : allP (Rs.take (k + 1)) = allP (Rs.take k) ++ prs (Rs.getD k []) := by
  rw [take_snoc h, allP_app]
  simp [allP]
theorem allP_last : ∀ (n : Nat) (row : List Int), row.length ≤ n → row ≠ [] → allP (rowsT row) = allP ((rowsT row).take ((rowsT row).length - 1))
  | 0, row, h, hn => absurd (List.length_eq_zero_iff.1 (by omega)) hn
  | n + 1, row, h, hn => by
    have h0 := List.length_pos_iff.2 hn
    by_cases g : 1 < row.length
    · have hu : upR row ≠ [] := fun e => by have := upR_len row; rw [e] at this; simp at this; omega
      have h1 := rowsT_pos hu
      obtain ⟨m, hm⟩ : ∃ m, (rowsT (upR row)).length = m + 1 := ⟨(rowsT (upR row)).length - 1, by omega⟩
      have ih := allP_last n (upR row) (by rw [upR_len]; omega) hu
      rw [rowsT_more g, List.length_cons, hm, Nat.add_sub_cancel, List.take_succ_cons, allP, allP, ih, hm, Nat.add_sub_cancel]
    · obtain ⟨x, rfl⟩ := List.length_eq_one_iff.1 (show row.length = 1 by omega)
      rw [rowsT_one (by rfl)]
      rfl
theorem allP_len : ∀ (n : Nat) (row : List Int), row.length ≤ n → row ≠ [] → (allP (rowsT row)).length + 1 ≤ row.length
  | 0, row, h, hn => absurd (List.length_eq_zero_iff.1 (by omega)) hn
  | n + 1, row, h, hn => by
    have h0 := List.length_pos_iff.2 hn
    by_cases g : 1 < row.length
    · have hu : upR row ≠ [] := fun e => by have := upR_len row; rw [e] at this; simp at this; omega
      have ih := allP_len n (upR row) (by rw [upR_len]; omega) hu
      rw [upR_len] at ih
      rw [rowsT_more g, allP, List.length_append, prs_len _ row (Nat.le_refl _)]
      omega
    · obtain ⟨x, rfl⟩ := List.length_eq_one_iff.1 (show row.length = 1 by omega)
      rw [rowsT_one (by rfl)]
      simp [allP, prs]
theorem allP_sub (Rs : List (List Int)) : ∀ k, (allP (Rs.take k)).length ≤ (allP Rs).length := fun k => by
  have h : allP Rs = allP (Rs.take k) ++ allP (Rs.drop k) := by rw [← allP_app, List.take_append_drop]
  rw [h, List.length_append]
  omega
/-- The lists of the leaves. -/
def lvL (L : List (List Int)) : List (List Int) := L.flatMap fun l => [l, [0, Dg l]]
theorem lvL_take {L : List (List Int)} {k : Nat} (h : k < L.length) : lvL (L.take (k + 1)) = lvL (L.take k) ++ [L.getD k [], [0, Dg (L.getD k [])]] := by
  unfold lvL
  rw [take_snoc h, List.flatMap_append]
  simp
theorem lvL_len (L : List (List Int)) : (lvL L).length = 2 * L.length := by
  unfold lvL
  induction L with
  | nil => rfl
  | cons x r ih => rw [List.flatMap_cons, List.length_append, ih]; simp; omega
theorem trL_is (L : List (List Int)) : trL L = lvL L ++ allP (rowsT (lvs L)) := rfl
theorem trL_len {L : List (List Int)} (h : L ≠ []) : (trL L).length ≤ 3 * L.length := by
  have hn : lvs L ≠ [] := fun e => h (by have := congrArg List.length e; rw [lvs_len] at this; exact List.length_eq_zero_iff.1 this)
  have := allP_len _ (lvs L) (Nat.le_refl _) hn
  rw [lvs_len] at this
  rw [trL_is, List.length_append, lvL_len]
  omega
theorem ListsR.base {n0 n1 : Nat} {Ls : List (List Int)} {lv : Value} {W : World} (h : ListsR n0 Ls lv W) (hn : n1 ≤ n0) : ListsR n1 Ls lv W := by
  obtain ⟨xs, h1, h2⟩ := h
  refine ⟨xs, row_base h1 hn, fun i x hi => ?_⟩
  obtain ⟨u, e1, e2, e3⟩ := h2 i x hi
  exact ⟨u, e1, e2, row_base e3 hn⟩
/-- Two more lists behind the others. -/
theorem ListsR.snoc2 {n0 : Nat} {Ls : List (List Int)} {l k : List Int} {lv lv' u t : Value} {xs : List Value} {W W' : World} (h : ∀ (i : Nat) (x : List Int), Ls[i]? = some x → ∃ u, xs[i]? = some u ∧ u.oneCell' = true ∧ W.ownsRow n0 3 1 u x.length (x.map (Value.int .i64))) (hl : xs.length = Ls.length) (hown : W.ownsRow n0 22 1 lv Ls.length xs)
    (hu : W.ownsRow n0 3 1 u l.length (l.map (Value.int .i64))) (h1 : u.oneCell' = true) (ht : W.ownsRow n0 3 1 t k.length (k.map (Value.int .i64))) (h2 : t.oneCell' = true) (hgrow : W.grownBy W' lv.ownBlock) (hown' : W'.ownsRow n0 22 1 lv' (Ls.length + 2) (xs ++ [u, t])) : ListsR n0 (Ls ++ [l, k]) lv' W' := by
  have ap : ∀ {y : Value} {x : List Int}, W.ownsRow n0 3 1 y x.length (x.map (Value.int .i64)) → W'.ownsRow n0 3 1 y x.length (x.map (Value.int .i64)) := fun hy => row_grown hy hgrow (fun k e => row_type hy hown (by decide) e)
  refine ⟨xs ++ [u, t], by rw [List.length_append]; exact hown', fun i x hi => ?_⟩
  by_cases hlt : i < Ls.length
  · rw [List.getElem?_append_left hlt] at hi
    obtain ⟨y, e1, e2, e3⟩ := h i x hi
    exact ⟨y, by rw [List.getElem?_append_left (by omega)]; exact e1, e2, ap e3⟩
  · obtain ⟨j, rfl⟩ : ∃ j, i = Ls.length + j := ⟨i - Ls.length, by omega⟩
    rw [List.getElem?_append_right (by omega), Nat.add_sub_cancel_left] at hi
    rw [List.getElem?_append_right (by omega), show Ls.length + j - xs.length = j by omega]
    rcases j with _ | _ | j
    · cases hi; exact ⟨u, rfl, h1, ap hu⟩
    · cases hi; exact ⟨t, rfl, h2, ap ht⟩
    · simp at hi
theorem two_at {W : World} {g : Nat} {x y : Value} (h : Cs W g #[x, y]) : ∀ j u, ([x, y] : List Value)[j]? = some u → W.cell? ((⟨g, 0, none⟩ : Addr).add j) = some u := fun j u hu => by
  rw [Go.WideShapes.add_plain, Nat.zero_add]
  exact h.c j (by simpa using hu)
/-- An append whose equation is known, at a step of a region that draws its order. -/
theorem step_app {ops : Array Oper} {o : Oper} {a : Act} {w w' : World} {K : Act → World → Prop} {Q : Exit → Act → World → Prop} {E : Prop} (hgd : o.guard = none) (s x : Operand) (t : TypeId)
    (ho : o.op = .call { callee := .builtin .append, args := #[s, x], argTypes := #[t, t] }) (v sl v' : Value) (hs : a.eval s = v) (hx : a.eval x = sl)
    (hr : (Builtin.append_ #[t, t] o.type #[v, sl]).run Try.prog w = .ok v' w') (h : K (a.put o.dst v') w') :
    if Region.wanted o (yielded ops a.tmps) = true then Oper.wp Try.prog o a w K Q else E := by
  have hw : Region.wanted o (yielded ops a.tmps) = true := by simp [Region.wanted, hgd]
  rw [if_pos hw]
  unfold Oper.wp execOp
  simp only [ho, resolve, invoke, builtin, Sem.run_bind, Sem.run_pure, Result.andThen_ok, List.map_toArray, List.map_cons, List.map_nil, hs, hx, hr]
  exact h
theorem getD_mem {L : List (List Int)} {k : Nat} (h : k < L.length) : L.getD k [] ∈ L := by
  rw [show L.getD k [] = L[k] by simp [h]]
  exact List.getElem_mem h
theorem upR_le (row : List Int) : (upR row).length ≤ row.length := by rw [upR_len]; omega
theorem rowsF_el : ∀ (n : Nat) (row : List Int), ∀ x ∈ rowsF n row, x.length ≤ row.length
  | 0, row, x, h => by cases h
  | n + 1, row, x, h => by
    unfold rowsF at h
    by_cases g : 1 < row.length
    · rw [if_pos g] at h
      rcases List.mem_cons.1 h with rfl | h
      · exact Nat.le_refl _
      · exact Nat.le_trans (rowsF_el n (upR row) x h) (upR_le row)
    · rw [if_neg g] at h
      by_cases g1 : row.length = 1
      · rw [if_pos g1] at h
        rcases List.mem_cons.1 h with rfl | h
        · exact Nat.le_refl _
        · cases h
      · rw [if_neg g1] at h; cases h
end Go.Proofs.Ytiiehoeoaalbmaa
