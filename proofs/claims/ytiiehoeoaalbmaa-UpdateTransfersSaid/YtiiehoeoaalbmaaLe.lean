/- Appends of lists of numbers; a number in another's place. -/
import Derived.Test.YtiiehoeoaalbmaaNr
import Derived.Maps.AppendAt
namespace Go.Proofs.Ytiiehoeoaalbmaa
open Go.RowKit

/-- An append of a list of numbers that may be nil, as an equation. -/
theorem run_appI (w : World) (base n : Nat) (v sl : Value) (xs : List Value) (l : List Int) (ty : TypeId) (hown : w.ownsRow base 3 1 v n xs) (h : IntsAt w sl l) (hn : n + l.length ≤ 10000) (hb : base ≤ w.heap.size) :
    ∃ v' w', (Builtin.append_ #[22, 22] ty #[v, sl]).run Try.prog w = .ok v' w' ∧ w'.ownsRow base 3 1 v' (n + l.length) (xs ++ l.map (Value.int .i64)) ∧ w.grownBy w' v.ownBlock := by
  obtain ⟨i0, hi, hz0, hz1, hz2⟩ := info_parts infoInt
  obtain ⟨a, cap, rfl, hm, hc⟩ := h
  cases a with
  | none =>
    have hl : l = [] := by
      cases l with
      | nil => rfl
      | cons x l => obtain ⟨b, off, e, -⟩ := hc (by simp); cases e
    subst hl
    have hg : w.grownBy w v.ownBlock := ⟨rfl, rfl, rfl, Nat.le_refl _, fun _ _ _ => rfl⟩
    refine ⟨v, w, ?_, by simpa using hown, hg⟩
    rcases hown.2 with ⟨rfl, rfl⟩ | ⟨g, c, cur, rfl, _, _, hnc, _⟩
    · simp [Builtin.append_, run_underlying Try.underlying22, sizeOf, typeInfo, hi, Builtin.lenOf, Builtin.firstCells]
    · simp [Builtin.append_, run_underlying Try.underlying22, sizeOf, typeInfo, hi, Builtin.lenOf, Builtin.firstCells, hnc, storeCells]
  | some ad =>
    have hcell := in_cells (w := w) (a := some ad) (cap := cap) (l := l) ⟨some ad, cap, rfl, hm, hc⟩ ad rfl
    obtain ⟨v', w', h1, h2, h3, -, -⟩ := run_append_own_at (P := Try.prog) w base 22 ty 3 i0 _ 1 8 Try.underlying22 hi hz0 hz1 hz2 rfl (by decide) v n xs hown ad l.length cap (l.map (Value.int .i64)) (by simp) hcell (in_one l) (by unfold maxLen; omega) (by omega) hb
    exact ⟨v', w', h1, h2, h3⟩
theorem wpList_appI {ops : Array Oper} {rest : List Oper} {o : Oper} {a : Act} {w w' : World} {Q : Exit → Act → World → Prop} (hgd : o.guard = none) (s x : Operand) (t : TypeId)
    (ho : o.op = .call { callee := .builtin .append, args := #[s, x], argTypes := #[t, t] }) (v sl v' : Value) (hs : a.eval s = v) (hx : a.eval x = sl)
    (hr : (Builtin.append_ #[t, t] o.type #[v, sl]).run Try.prog w = .ok v' w') (h : wpList Try.prog ops Q rest (a.put o.dst v') w') : wpList Try.prog ops Q (o :: rest) a w := by
  refine wpList_step fun K hK => ?_
  rw [if_pos (by simp [Region.wanted, hgd])]
  unfold Oper.wp execOp
  simp only [ho, resolve, invoke, builtin, Sem.run_bind, Sem.run_pure, Result.andThen_ok, List.map_toArray, List.map_cons, List.map_nil, hs, hx, hr]
  exact hK _ _ h
theorem row_empty (w : World) : (w.alloc (.cells #[] 3)).ownsRow w.heap.size 3 1 (.slice (some ⟨w.heap.size, 0, none⟩) 0 0) 0 [] :=
  ⟨rfl, .inr ⟨w.heap.size, 0, _, rfl, Nat.le_refl _, heap_alloc_new _ _, by omega, by unfold maxLen; omega, rfl, rfl⟩⟩
/-- A copy by an append behind an empty list. -/
theorem copy_run (w : World) (sl : Value) (l : List Int) (ty : TypeId) (h : IntsAt w sl l) (hn : l.length ≤ 5000) :
    ∃ v' w', (Builtin.append_ #[22, 22] ty #[.slice (some ⟨w.heap.size, 0, none⟩) 0 0, sl]).run Try.prog (w.alloc (.cells #[] 3)) = .ok v' w' ∧ w'.ownsRow w.heap.size 3 1 v' l.length (l.map (Value.int .i64)) ∧ Below w.heap.size w w' := by
  obtain ⟨v', w', h1, h2, h3⟩ := run_appI (w.alloc (.cells #[] 3)) w.heap.size 0 _ sl [] l ty (row_empty w) (h.step (al _ _)) (by omega) (by simp)
  refine ⟨v', w', h1, by rw [Nat.zero_add] at h2; exact h2, (al w _).grown h3 (by simp) (fun k e => by cases e; exact Nat.le_refl _)⟩
theorem append_run (w : World) (base : Nat) (v sl : Value) (k l : List Int) (ty : TypeId) (hown : w.ownsRow base 3 1 v k.length (k.map (Value.int .i64))) (h : IntsAt w sl l) (hn : k.length + l.length ≤ 10000) (hb : base ≤ w.heap.size) :
    ∃ v' w', (Builtin.append_ #[22, 22] ty #[v, sl]).run Try.prog w = .ok v' w' ∧ w'.ownsRow base 3 1 v' (k ++ l).length ((k ++ l).map (Value.int .i64)) ∧ Below base w w' := by
  obtain ⟨v', w', h1, h2, h3⟩ := run_appI w base k.length v sl _ l ty hown h hn hb
  refine ⟨v', w', h1, by rw [List.length_append, List.map_append]; exact h2, (Below.refl _ w).grown h3 hb (fun q e => row_own hown e)⟩
theorem ints_set {w : World} {base g n c x : Nat} {y : Int} {l : List Int} (h : w.ownsRow base 3 1 (.slice (some ⟨g, 0, none⟩) n c) l.length (l.map (Value.int .i64))) (hx : x < l.length) : IntsAt (w.setCell ⟨g, x, none⟩ (.int .i64 y)) (.slice (some ⟨g, 0, none⟩) n c) (l.set x y) := by
  obtain ⟨a, cap, hv, hm, hc⟩ := ints_of_row h
  obtain ⟨b, off, ha, hcs⟩ := hc (by intro e; rw [e] at hx; simp at hx)
  obtain ⟨hg, hn, hcc⟩ : some (⟨g, 0, none⟩ : Addr) = a ∧ n = l.length ∧ c = cap := by simpa using hv
  obtain ⟨rfl, rfl⟩ : g = b ∧ 0 = off := by rw [ha] at hg; simpa using hg
  subst hn hcc
  refine ⟨a, c, by rw [← hg, List.length_set], by rw [List.length_set]; exact hm, fun _ => ⟨g, 0, hg.symm, fun i z hi => ?_⟩⟩
  rw [Nat.zero_add]
  by_cases e : x = i
  · subst e
    rw [List.getElem?_set_self hx] at hi
    have h1 := hcs x _ (getD_of hx)
    rw [Nat.zero_add] at h1
    rw [World.cell?_setCell_same _ _ _ h1, Option.some.inj hi]
  · rw [List.getElem?_set_ne e] at hi
    have h1 := hcs i z hi
    rw [Nat.zero_add] at h1
    rw [World.cell?_setCell_other _ _ _ _ (by intro h2; injection h2 with _ h3; exact e h3), h1]
theorem Dg_app (a b : List Int) : Dg (a ++ b) = b.foldl dg (Dg a) := by unfold Dg; rw [List.foldl_append]
theorem fold_take {b : List Int} {k : Nat} (d : Int) (h : k < b.length) : (b.take (k + 1)).foldl dg d = dg ((b.take k).foldl dg d) (b.getD k 0) := by
  rw [List.take_succ_eq_append_getElem h, List.foldl_append]; simp [h]
theorem fold_bd (a b : List Int) : 0 ≤ b.foldl dg (Dg a) ∧ b.foldl dg (Dg a) < 2147483647 := by rw [← Dg_app]; exact Dg_bd _
theorem Dg_set {a : List Int} {k : Nat} (h : k < a.length) (o : Int) : Dg (a.set k o) = Dg a ↔ o % 2147483647 = a.getD k 0 % 2147483647 := by
  have e1 : a.set k o = a.take k ++ o :: a.drop (k + 1) := by rw [List.set_eq_take_append_cons_drop, if_pos h]
  have e2 : a = a.take k ++ a.getD k 0 :: a.drop (k + 1) := by
    have e3 : a.getD k 0 = a[k] := by simp [h]
    rw [e3, ← List.drop_eq_getElem_cons h, List.take_append_drop]
  have h1 := Dg_replace (a.take k) (a.drop (k + 1)) o (a.getD k 0)
  rw [← e1, ← e2] at h1
  exact h1
theorem set_row {W : World} {base g c k : Nat} {a : List Int} (h : W.ownsRow base 3 1 (.slice (some ⟨g, 0, none⟩) a.length c) a.length (a.map (Value.int .i64))) (hk : k < a.length) :
    W.cell? ⟨g, k, none⟩ = some (.int .i64 (a.getD k 0)) ∧ W.frozen? ⟨g, k, none⟩ = false ∧ base ≤ g ∧ g < W.heap.size := by
  rcases h.2 with ⟨e, -⟩ | ⟨g', cap, cur, e, hg, hh, h1, h2, h3, h4⟩
  · cases e
  obtain ⟨rfl, rfl⟩ : g = g' ∧ c = cap := by simpa using e
  have hx := h.cells (g := g) rfl k (.int .i64 (a.getD k 0)) (by rw [List.getElem?_map, getD_of hk]; rfl)
  rw [Go.WideShapes.add_plain, Nat.zero_add] at hx
  refine ⟨hx, ?_, hg, (Array.getElem?_eq_some_iff.1 hh).1⟩
  simp [World.frozen?, hh]
end Go.Proofs.Ytiiehoeoaalbmaa
