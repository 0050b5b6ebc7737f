import Derived.Test.YteodafhgfcbdpaaGn
import Derived.Test.YteodafhgfcbdpaaUi
namespace Go.Proofs.Yteodafhgfcbdpaa
open Go.RowKit Go.WideShapes Go.ChangeShapes Go.Joins Go.Deep

theorem cells24 : Try.prog.cellsOf 24 = 5 := by kernel_rfl
theorem cells25 : Try.prog.cellsOf 25 = 1 := by kernel_rfl
theorem cells27 : Try.prog.cellsOf 27 = 6 := by kernel_rfl
theorem cells29 : Try.prog.cellsOf 29 = 3 := by kernel_rfl
variable {H : Type} {enc : TypeId × Value → H} {w : World} {base : Nat} {sp : Nat → Bool} {held : Bool} {r : Reach} {b0 : Nat} {v : Value} {d : DataW H} {p : List MemPlace}
theorem trod_struct2 {P : Program} {t : TypeId} {f0 f1 : Field} {fuel : Nat} {cs : List Value} {x : DataW H × List MemPlace} (ht : P.underlying t = some (.struct #[f0, f1])) (h : DataW.trod enc P w base sp held fuel t cs = some x) :
    ∃ (n : Nat) (ys : Nat → DataW H × List MemPlace), cs.length = P.cellsOf t ∧
      DataW.trod enc P w base sp held n f0.type ((cs.drop f0.offset).take (P.cellsOf f0.type)) = some (ys 0) ∧
      DataW.trod enc P w base sp held n f1.type ((cs.drop f1.offset).take (P.cellsOf f1.type)) = some (ys 1) := by
  obtain ⟨xs, n, _, rfl, hl, hlen, hf⟩ := DataW.trod_struct ht h
  match xs, hlen with
  | [y0, y1], _ =>
    exact ⟨n, fun i => match i with | 0 => y0 | _ => y1, hl, by simpa using hf 0 f0 rfl, by simpa using hf 1 f1 rfl⟩
theorem trod_struct3 {P : Program} {t : TypeId} {f0 f1 f2 : Field} {fuel : Nat} {cs : List Value} {x : DataW H × List MemPlace} (ht : P.underlying t = some (.struct #[f0, f1, f2])) (h : DataW.trod enc P w base sp held fuel t cs = some x) :
    ∃ (n : Nat) (ys : Nat → DataW H × List MemPlace), cs.length = P.cellsOf t ∧
      DataW.trod enc P w base sp held n f0.type ((cs.drop f0.offset).take (P.cellsOf f0.type)) = some (ys 0) ∧
      DataW.trod enc P w base sp held n f1.type ((cs.drop f1.offset).take (P.cellsOf f1.type)) = some (ys 1) ∧
      DataW.trod enc P w base sp held n f2.type ((cs.drop f2.offset).take (P.cellsOf f2.type)) = some (ys 2) := by
  obtain ⟨xs, n, _, rfl, hl, hlen, hf⟩ := DataW.trod_struct ht h
  match xs, hlen with
  | [y0, y1, y2], _ =>
    exact ⟨n, fun i => match i with | 0 => y0 | 1 => y1 | _ => y2, hl, by simpa using hf 0 f0 rfl, by simpa using hf 1 f1 rfl, by simpa using hf 2 f2 rfl⟩
theorem trod_struct5 {P : Program} {t : TypeId} {f0 f1 f2 f3 f4 : Field} {fuel : Nat} {cs : List Value} {x : DataW H × List MemPlace} (ht : P.underlying t = some (.struct #[f0, f1, f2, f3, f4])) (h : DataW.trod enc P w base sp held fuel t cs = some x) :
    ∃ (n : Nat) (ys : Nat → DataW H × List MemPlace), cs.length = P.cellsOf t ∧
      DataW.trod enc P w base sp held n f0.type ((cs.drop f0.offset).take (P.cellsOf f0.type)) = some (ys 0) ∧
      DataW.trod enc P w base sp held n f1.type ((cs.drop f1.offset).take (P.cellsOf f1.type)) = some (ys 1) ∧
      DataW.trod enc P w base sp held n f2.type ((cs.drop f2.offset).take (P.cellsOf f2.type)) = some (ys 2) ∧
      DataW.trod enc P w base sp held n f3.type ((cs.drop f3.offset).take (P.cellsOf f3.type)) = some (ys 3) ∧
      DataW.trod enc P w base sp held n f4.type ((cs.drop f4.offset).take (P.cellsOf f4.type)) = some (ys 4) := by
  obtain ⟨xs, n, _, rfl, hl, hlen, hf⟩ := DataW.trod_struct ht h
  match xs, hlen with
  | [y0, y1, y2, y3, y4], _ =>
    exact ⟨n, fun i => match i with | 0 => y0 | 1 => y1 | 2 => y2 | 3 => y3 | _ => y4, hl, by simpa using hf 0 f0 rfl, by simpa using hf 1 f1 rfl, by simpa using hf 2 f2 rfl, by simpa using hf 3 f3 rfl, by simpa using hf 4 f4 rfl⟩
theorem open22c {k : Nat} {cs : List Value} {x : DataW H × List MemPlace} (h : DataW.trod enc Try.prog w base sp held k 22 cs = some x) : ∃ v l, cs = [v] ∧ CapI w v l := by
  obtain ⟨v, l, rfl, hl⟩ := open22 h
  obtain ⟨a, c, rfl, h2, h3⟩ := hl
  refine ⟨_, l, rfl, ⟨a, c, rfl, h2, h3⟩, a, c, rfl, ?_⟩
  rcases Go.Deep.open_slice Try.underlying22 h with ⟨h0, _⟩ | ⟨a1, len, cap, m, k, D, Pl, hv, _, hl, hm, hmm, _, hx⟩
  · simp only [List.cons.injEq, and_true] at h0
    cases hh : l with
    | nil => simp
    | cons y z => rw [hh] at h0; simp at h0
  · simp only [List.cons.injEq, and_true] at hv
    injection hv with e1 e2 e3
    omega
theorem open25 {k : Nat} {cs : List Value} {x : DataW H × List MemPlace} (h : DataW.trod enc Try.prog w base sp held k 25 cs = some x) : ∃ v L, cs = [v] ∧ RowsAt w v L := by
  rcases Go.Deep.open_slice Try.underlying25 h with ⟨h0, _⟩ | ⟨a, len, cap, m, k, D, Pl, hv, _, hl, hm, hmm, _, hx⟩
  · exact ⟨_, [], h0, none, 0, rfl, by simp, fun h => absurd rfl h⟩
  · rw [cells22] at hx
    have hle : len ≤ m := by rw [hmm]; split <;> omega
    obtain ⟨f, hf⟩ := Go.Deep.choose_lt (α := Value × List Int) (p := fun i s => w.cells? base (a.add (i * 1)) 1 = some [s.1] ∧ IntsAt w s.1 s.2) (n := len) (fun i hi => by
      obtain ⟨cs', h1, h2⟩ := hx i (by omega)
      obtain ⟨u, l, rfl, h3⟩ := open22 h2
      exact ⟨(u, l), h1, h3⟩)
    refine ⟨_, (List.range len).map fun i => (f i).2, hv, some a, cap, by simp, by simp; omega, fun hne => ?_⟩
    have hpos : 0 < len := by
      apply Classical.byContradiction; intro h0
      exact hne (by simp; omega)
    have hc := fun i hi => (World.cells?_some (hf i hi).1).2.2
    have h00 := hc 0 hpos 0 (by omega)
    rw [Go.Deep.add_add, Nat.zero_mul, Nat.add_zero] at h00
    obtain ⟨b, off, rfl⟩ := plain_of h00
    refine ⟨b, off, rfl, fun i x hi => ?_⟩
    obtain ⟨hlt, rfl⟩ := range_get (fun i => (f i).2) len i x hi
    have hj := hc i hlt 0 (by omega)
    simp only [Go.WideShapes.add_plain, Nat.mul_one, Nat.add_zero] at hj
    exact ⟨(f i).1, by simpa using hj, (hf i hlt).2⟩
theorem open24 {n : Nat} {cs : List Value} {x : DataW H × List MemPlace} (h : DataW.trod enc Try.prog w base sp held n 24 cs = some x) : ∃ m : Mf, cs = [.int .i64 m.v, .int .i64 m.c, .int .i64 m.s, .int .i64 m.r, .int .i64 m.t] := by
  obtain ⟨m, ys, hl, h0, h1, h2, h3, h4⟩ := trod_struct5 Try.underlying24 h
  rw [cells24] at hl
  match cs, hl with
  | [c0, c1, c2, c3, c4], _ =>
    simp only [cells3, List.drop_zero, List.drop_succ_cons, List.take_succ_cons, List.take_zero] at h0 h1 h2 h3 h4
    obtain ⟨s0, e0, _⟩ := DataW.trod_int Try.underlying3 h0
    obtain ⟨s1, e1, _⟩ := DataW.trod_int Try.underlying3 h1
    obtain ⟨s2, e2, _⟩ := DataW.trod_int Try.underlying3 h2
    obtain ⟨s3, e3, _⟩ := DataW.trod_int Try.underlying3 h3
    obtain ⟨s4, e4, _⟩ := DataW.trod_int Try.underlying3 h4
    simp only [List.cons.injEq, and_true] at e0 e1 e2 e3 e4
    exact ⟨⟨s0, s1, s2, s3, s4⟩, by rw [e0, e1, e2, e3, e4]⟩
theorem arg_mf (hv : Value.okWide Try.prog w r b0 24 v) (h : DataW.Trod enc Try.prog w base sp held 24 v d p) : ∃ m : Mf, v = .agg #[.int .i64 m.v, .int .i64 m.c, .int .i64 m.s, .int .i64 m.r, .int .i64 m.t] := by
  obtain ⟨cs, rfl, hsz⟩ := okWide_struct Try.underlying24 hv
  obtain ⟨k, h⟩ := h
  obtain ⟨m, e⟩ := open24 h
  refine ⟨m, ?_⟩
  congr 1
  exact Array.toList_inj.1 e
theorem open29 {n : Nat} {cs : List Value} {x : DataW H × List MemPlace} (h : DataW.trod enc Try.prog w base sp held n 29 cs = some x) : ∃ (i : Int) (dv : Value) (dl : List Int) (pv : Value) (pl : List Int), cs = [.int .i64 i, dv, pv] ∧ IntsAt w dv dl ∧ CapI w pv pl := by
  obtain ⟨m, ys, hl, h0, h1, h2⟩ := trod_struct3 Try.underlying29 h
  rw [cells29] at hl
  match cs, hl with
  | [c0, c1, c2], _ =>
    simp only [cells3, cells22, List.drop_zero, List.drop_succ_cons, List.take_succ_cons, List.take_zero] at h0 h1 h2
    obtain ⟨s0, e0, _⟩ := DataW.trod_int Try.underlying3 h0
    obtain ⟨dv, dl, e1, g1⟩ := open22 h1
    obtain ⟨pv, pl, e2, g2⟩ := open22c h2
    simp only [List.cons.injEq, and_true] at e0 e1 e2
    exact ⟨s0, dv, dl, pv, pl, by rw [e0, e1, e2], g1, g2⟩
theorem arg_pc (hv : Value.okWide Try.prog w r b0 29 v) (h : DataW.Trod enc Try.prog w base sp held 29 v d p) : ∃ (i : Int) (dv : Value) (dl : List Int) (pv : Value) (pl : List Int), v = .agg #[.int .i64 i, dv, pv] ∧ IntsAt w dv dl ∧ CapI w pv pl := by
  obtain ⟨cs, rfl, hsz⟩ := okWide_struct Try.underlying29 hv
  obtain ⟨k, h⟩ := h
  obtain ⟨i, dv, dl, pv, pl, e, h1, h2⟩ := open29 h
  refine ⟨i, dv, dl, pv, pl, ?_, h1, h2⟩
  congr 1
  exact Array.toList_inj.1 e
theorem open27 {n : Nat} {cs : List Value} {x : DataW H × List MemPlace} (h : DataW.trod enc Try.prog w base sp held n 27 cs = some x) : ∃ (m : Mf) (u : Value) (L : List (List Int)), cs = [.int .i64 m.v, .int .i64 m.c, .int .i64 m.s, .int .i64 m.r, .int .i64 m.t, u] ∧ RowsAt w u L := by
  obtain ⟨m, ys, hl, h0, h1⟩ := trod_struct2 Try.underlying27 h
  rw [cells27] at hl
  match cs, hl with
  | [c0, c1, c2, c3, c4, c5], _ =>
    simp only [cells24, cells25, List.drop_zero, List.drop_succ_cons, List.take_succ_cons, List.take_zero] at h0 h1
    obtain ⟨m, e0⟩ := open24 h0
    obtain ⟨u, L, e1, g1⟩ := open25 h1
    simp only [List.cons.injEq, and_true] at e0 e1
    obtain ⟨rfl, rfl, rfl, rfl, rfl⟩ := e0
    subst e1
    exact ⟨m, _, L, rfl, g1⟩
theorem arg_slot (hv : Value.okWide Try.prog w r b0 27 v) (h : DataW.Trod enc Try.prog w base sp held 27 v d p) : ∃ (m : Mf) (u : Value) (L : List (List Int)), v = .agg #[.int .i64 m.v, .int .i64 m.c, .int .i64 m.s, .int .i64 m.r, .int .i64 m.t, u] ∧ RowsAt w u L := by
  obtain ⟨cs, rfl, hsz⟩ := okWide_struct Try.underlying27 hv
  obtain ⟨k, h⟩ := h
  obtain ⟨m, u, L, e, h1⟩ := open27 h
  refine ⟨m, u, L, ?_, h1⟩
  congr 1
  exact Array.toList_inj.1 e
end Go.Proofs.Yteodafhgfcbdpaa
