/- Frames: 'tag', 'Seal', 'Open'. -/
import Derived.Test.YtebeaekiaikgmaaFh
import Derived.Maps.AppendAt
namespace Go.Proofs.Ytebeaekiaikgmaa
open Go.RowKit

/-- An append of a list of numbers that may be nil, as an equation. -/
theorem run_appI (w : World) (base n : Nat) (v sl : Value) (xs : List Value) (l : List Int) (ty : TypeId) (hown : w.ownsRow base 3 1 v n xs) (h : IntsAt w sl l) (hn : n + l.length ≤ 10000) (hb : base ≤ w.heap.size) :
    ∃ v' w', (Builtin.append_ #[22, 22] ty #[v, sl]).run Try.prog w = .ok v' w' ∧ w'.ownsRow base 3 1 v' (n + l.length) (xs ++ l.map (Value.int .i64)) ∧ w.grownBy w' v.ownBlock := by
  obtain ⟨i0, hi, hz0, hz1, hz2⟩ := info_parts infoInt
  obtain ⟨a, cap, rfl, hm, hc⟩ := h
  cases a with
  | none =>
    have hl : l = [] := by
      cases l with
      | nil => rfl
      | cons x l => obtain ⟨b, off, e, -⟩ := hc (by simp); cases e
    subst hl
    have hg : w.grownBy w v.ownBlock := ⟨rfl, rfl, rfl, Nat.le_refl _, fun _ _ _ => rfl⟩
    refine ⟨v, w, ?_, by simpa using hown, hg⟩
    rcases hown.2 with ⟨rfl, rfl⟩ | ⟨g, c, cur, rfl, _, _, hnc, _⟩
    · simp [Builtin.append_, run_underlying Try.underlying22, sizeOf, typeInfo, hi, Builtin.lenOf, Builtin.firstCells]
    · simp [Builtin.append_, run_underlying Try.underlying22, sizeOf, typeInfo, hi, Builtin.lenOf, Builtin.firstCells, hnc, storeCells]
  | some ad =>
    have hcell := in_cells (w := w) (a := some ad) (cap := cap) (l := l) ⟨some ad, cap, rfl, hm, hc⟩ ad rfl
    obtain ⟨v', w', h1, h2, h3, -, -⟩ := run_append_own_at (P := Try.prog) w base 22 ty 3 i0 _ 1 8 Try.underlying22 hi hz0 hz1 hz2 rfl (by decide) v n xs hown ad l.length cap (l.map (Value.int .i64)) (by simp) hcell (in_one l) (by unfold maxLen; omega) (by omega) hb
    exact ⟨v', w', h1, h2, h3⟩
theorem wpList_appI {ops : Array Oper} {rest : List Oper} {o : Oper} {a : Act} {w w' : World} {Q : Exit → Act → World → Prop} (hgd : o.guard = none) (s x : Operand) (t : TypeId)
    (ho : o.op = .call { callee := .builtin .append, args := #[s, x], argTypes := #[t, t] }) (v sl v' : Value) (hs : a.eval s = v) (hx : a.eval x = sl)
    (hr : (Builtin.append_ #[t, t] o.type #[v, sl]).run Try.prog w = .ok v' w') (h : wpList Try.prog ops Q rest (a.put o.dst v') w') : wpList Try.prog ops Q (o :: rest) a w := by
  refine wpList_step fun K hK => ?_
  rw [if_pos (by simp [Region.wanted, hgd])]
  unfold Oper.wp execOp
  simp only [ho, resolve, invoke, builtin, Sem.run_bind, Sem.run_pure, Result.andThen_ok, List.map_toArray, List.map_cons, List.map_nil, hs, hx, hr]
  exact hK _ _ h
/-- The contents of a frame; its tag under a key. -/
def cts (a b c d : Int) (l : List Int) : List Int := a :: b :: c :: d :: (l.length : Int) :: l
def tgF (key a b c d : Int) (l : List Int) : Int := Dg (key :: ((cts a b c d l).length : Int) :: cts a b c d l)
theorem tgF_bd (key a b c d : Int) (l : List Int) : 0 ≤ tgF key a b c d l ∧ tgF key a b c d l < 2147483647 := Dg_bd _
theorem row5 (w : World) (a b c d n : Int) : (w.alloc (.cells #[.int .i64 a, .int .i64 b, .int .i64 c, .int .i64 d, .int .i64 n] 3)).ownsRow w.heap.size 3 1 (.slice (some ⟨w.heap.size, 0, none⟩) 5 5) 5 [.int .i64 a, .int .i64 b, .int .i64 c, .int .i64 d, .int .i64 n] :=
  ⟨rfl, .inr ⟨w.heap.size, 5, _, rfl, Nat.le_refl _, heap_alloc_new _ _, by omega, by unfold maxLen; omega, rfl, rfl⟩⟩
theorem cts_run (w : World) (a b c d : Int) (sl : Value) (l : List Int) (ty : TypeId) (h : IntsAt w sl l) (hn : l.length ≤ 5000) (g : Nat) (hg : w.heap.size = g) :
    ∃ v' w', (Builtin.append_ #[22, 22] ty #[.slice (some ⟨g, 0, none⟩) 5 5, sl]).run Try.prog (w.alloc (.cells #[.int .i64 a, .int .i64 b, .int .i64 c, .int .i64 d, .int .i64 (l.length : Int)] 3)) = .ok v' w' ∧ (∃ p q, v' = .slice p (5 + l.length) q) ∧ IntsAt w' v' (cts a b c d l) ∧ Below w.heap.size w w' := by
  subst hg
  obtain ⟨v', w', h1, h2, h3⟩ := run_appI _ w.heap.size 5 _ sl _ l ty (row5 w a b c d l.length) (h.step (al _ _)) (by omega) (by simp)
  refine ⟨v', w', h1, row_slice h2, ints_of_row (xs := cts a b c d l) (base := w.heap.size) (t := 3) ?_, (al w _).grown h3 (by simp) (fun k e => by cases e; exact Nat.le_refl _)⟩
  rw [show (cts a b c d l).length = 5 + l.length by simp [cts]; omega]
  exact h2
set_option maxRecDepth 100000 in
set_option maxHeartbeats 8000000 in
theorem tagF_any (key : Int) (a b c d : Int) (sl : Value) (l : List Int) (t : Int) (w : World) (h : IntsAt w sl l) (h9 : l.length ≤ 5000) : Calls Try.prog 36 #[.int .i64 key, .agg #[.int .i64 a, .int .i64 b, .int .i64 c, .int .i64 d, sl, .int .i64 t]] w fun e w' => e = .returned (.int .i64 (tgF key a b c d l)) ∧ Below w.heap.size w w' := by
  have HL0 := Lib.hid h
  obtain ⟨sa, sc, rfl, hm, -⟩ := h
  have HC0 := Lib.hid (Cs.new w w.heap.size #[.int .i64 a, .int .i64 b, .int .i64 c, .int .i64 d, .slice sa l.length sc, .int .i64 t] 24 rfl)
  have HB0 := Lib.hid (al w (.cells #[.int .i64 a, .int .i64 b, .int .i64 c, .int .i64 d, .slice sa l.length sc, .int .i64 t] 24))
  obtain ⟨v', w5, q5, ⟨p5, c5, rfl⟩, hi5, hb5⟩ := cts_run (w.alloc (.cells #[.int .i64 a, .int .i64 b, .int .i64 c, .int .i64 d, .slice sa l.length sc, .int .i64 t] 24)) a b c d (.slice sa l.length sc) l 22 (HL0.out.step HB0.out) h9 (w.heap.size + 1) (by simp)
  have HI5 := Lib.hid hi5
  have HB5 := Lib.hid (keep2 hb5 HB0.out)
  unfold maxLen at hm
  have HC1 := Lib.hid (HC0.out.alloc (.cells #[.int .i64 a, .int .i64 b, .int .i64 c, .int .i64 d, .int .i64 (l.length : Int)] 3))
  clear hi5 hb5
  have x0 := HC0.out.c 0 rfl
  have x1 := HC0.out.c 1 rfl
  have x2 := HC0.out.c 2 rfl
  have x3 := HC0.out.c 3 rfl
  have x4 := HC0.out.c 4 rfl
  have x5 := HC0.out.c 5 rfl
  have xz := HC0.out.2.2
  have y0 := HC1.out.c 0 rfl
  have y1 := HC1.out.c 1 rfl
  have y2 := HC1.out.c 2 rfl
  have y3 := HC1.out.c 3 rfl
  have y4 := HC1.out.c 4 rfl
  have y5 := HC1.out.c 5 rfl
  have yz := HC1.out.2.2
  go_enter Try.func36, Try.ntmps36
  go_wp2_with (at_builtin; refine wpList_appI rfl _ _ 22 rfl _ _ (.slice p5 (5 + l.length) c5) rfl rfl q5 ?_)
  refine (tag_any key _ (cts a b c d l) _ HI5.out (by simp [cts]; omega) (by simp [cts])).mono ?_
  rintro e w' ⟨rfl, hb⟩
  have HB6 := Lib.hid (keep2 hb HB5.out)
  clear hb
  go_wp2
  go_ret
  exact ⟨rfl, HB6.out⟩
end Go.Proofs.Ytebeaekiaikgmaa
