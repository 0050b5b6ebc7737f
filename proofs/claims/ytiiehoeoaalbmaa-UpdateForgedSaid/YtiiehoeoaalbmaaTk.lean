/- Law CryptoProofs, the walk. -/
import Derived.Test.YtiiehoeoaalbmaaTj
namespace Go.Proofs.Ytiiehoeoaalbmaa
open Go.RowKit

/-- One list of lists behind another, by an append. -/
theorem lists_app (W : World) (n0 : Nat) (A B : List (List Int)) (v u : Value) (ty : TypeId) (hA : ListsR n0 A v W) (hB : ListsR n0 B u W) (h0 : 0 < B.length) (h9 : A.length + B.length ≤ 1000) (hb : n0 ≤ W.heap.size) :
    ∃ v' w', (Builtin.append_ #[25, 25] ty #[v, u]).run Try.prog W = .ok v' w' ∧ ListsR n0 (A ++ B) v' w' ∧ Below n0 W w' := by
  obtain ⟨j0, ki, kz0, kz1, kz2⟩ := info_parts infoSl
  obtain ⟨xs, hx1, hx2⟩ := hA
  obtain ⟨ys, hy1, hy2⟩ := hB
  have hyl : ys.length = B.length := by have := hy1.1; omega
  have hxl : xs.length = A.length := by have := hx1.1; omega
  rcases hy1.2 with ⟨-, e⟩ | ⟨g, cap, cur, rfl, -, -⟩
  · omega
  have hcell : ∀ j z, ys[j]? = some z → W.cell? ((⟨g, 0, none⟩ : Addr).add j) = some z := fun j z hz => hy1.cells (g := g) rfl j z hz
  have hone : ∀ z ∈ ys, z.oneCell' = true := fun z hz => by
    obtain ⟨j, hj, rfl⟩ := List.getElem_of_mem hz
    obtain ⟨y, e1, e2, -⟩ := hy2 j (B[j]'(by omega)) (by simp [show j < B.length by omega])
    rw [List.getElem?_eq_getElem hj] at e1
    cases e1
    exact e2
  obtain ⟨v', w', h1, h2, h3, -, -⟩ := run_append_own_at (P := Try.prog) W n0 25 ty 22 j0 (.slice none 0 0) 1 24 Try.underlying25 ki kz0 kz1 kz2 rfl (by decide) v A.length xs hx1 ⟨g, 0, none⟩ B.length cap ys (by omega) hcell hone (by unfold maxLen; omega) (by omega) hb
  have ap : ∀ {y : Value} {x : List Int}, W.ownsRow n0 3 1 y x.length (x.map (Value.int .i64)) → w'.ownsRow n0 3 1 y x.length (x.map (Value.int .i64)) := fun hy => row_grown hy h3 (fun k e => row_type hy hx1 (by decide) e)
  refine ⟨v', w', h1, ⟨xs ++ ys, by rw [List.length_append]; exact h2, fun i x hi => ?_⟩, (Below.refl _ W).grown h3 hb (fun k e => row_own hx1 e)⟩
  by_cases hlt : i < A.length
  · rw [List.getElem?_append_left hlt] at hi
    obtain ⟨y, e1, e2, e3⟩ := hx2 i x hi
    exact ⟨y, by rw [List.getElem?_append_left (by omega)]; exact e1, e2, ap e3⟩
  · rw [List.getElem?_append_right (by omega)] at hi
    obtain ⟨y, e1, e2, e3⟩ := hy2 (i - A.length) x hi
    exact ⟨y, by rw [List.getElem?_append_right (by omega), hxl]; exact e1, e2, ap e3⟩
theorem lists_empty (W : World) {n0 : Nat} (hn : n0 ≤ W.heap.size) : ListsR n0 [] (.slice (some ⟨W.heap.size, 0, none⟩) 0 0) (W.alloc (.cells #[] 22)) :=
  ⟨[], ⟨rfl, .inr ⟨W.heap.size, 0, _, rfl, hn, heap_alloc_new _ _, Nat.le_refl 0, by unfold maxLen; omega, rfl, rfl⟩⟩, fun i x hi => by simp at hi⟩
theorem wpList_app_g {ops : Array Oper} {rest : List Oper} {o : Oper} {a : Act} {w w' : World} {Q : Exit → Act → World → Prop} (s x : Operand) (t : TypeId)
    (ho : o.op = .call { callee := .builtin .append, args := #[s, x], argTypes := #[t, t] }) (hw : Region.wanted o (yielded ops a.tmps) = true) (v sl v' : Value) (hs : a.eval s = v) (hx : a.eval x = sl)
    (hr : (Builtin.append_ #[t, t] o.type #[v, sl]).run Try.prog w = .ok v' w') (h : wpList Try.prog ops Q rest (a.put o.dst v') w') : wpList Try.prog ops Q (o :: rest) a w := by
  refine wpList_step fun K hK => ?_
  rw [if_pos hw]
  unfold Oper.wp execOp
  simp only [ho, resolve, invoke, builtin, Sem.run_bind, Sem.run_pure, Result.andThen_ok, List.map_toArray, List.map_cons, List.map_nil, hs, hx, hr]
  exact hK _ _ h
theorem clL_bd {l : List Int} {i : Int} {p : List Int} (h : clB i p = false) : 2 ≤ (clL l i p).length ∧ (clL l i p).length ≤ 22 := by
  unfold clL
  rw [h, if_neg (by decide)]
  have h1 := stK_L l i p p.length
  have h2 := stK_L2 l i p p.length
  unfold clB at h
  rw [Bool.or_eq_false_iff, Bool.or_eq_false_iff, decide_eq_false_iff_not, decide_eq_false_iff_not] at h
  omega
end Go.Proofs.Ytiiehoeoaalbmaa
