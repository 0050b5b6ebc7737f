/- Beliefs: how a law's arguments open. -/
import Derived.Test.YtigpopemllamdaaAy
import Derived.ChangeSame
import Derived.Deep.Strs
import Derived.RowKit
namespace Go.Proofs.Ytigpopemllamdaa
open Go.RowKit Go.WideShapes Go.ChangeShapes Go.Joins Go.Deep

set_option maxRecDepth 100000 in
theorem ownK : ownKnob Try.prog.godebug = none := by kernel_rfl
set_option maxRecDepth 100000 in
theorem laidO : laidOutB Try.prog = true := by kernel_rfl
set_option maxRecDepth 100000 in
theorem cells3 : Try.prog.cellsOf 3 = 1 := by kernel_rfl
set_option maxRecDepth 100000 in
theorem cells5 : Try.prog.cellsOf 5 = 1 := by kernel_rfl
set_option maxRecDepth 100000 in
theorem cells22 : Try.prog.cellsOf 22 = 1 := by kernel_rfl
set_option maxRecDepth 100000 in
theorem cells23 : Try.prog.cellsOf 23 = 1 := by kernel_rfl
set_option maxRecDepth 100000 in
theorem cells25 : Try.prog.cellsOf 25 = 2 := by kernel_rfl
set_option maxRecDepth 100000 in
theorem cells27 : Try.prog.cellsOf 27 = 4 := by kernel_rfl
set_option maxRecDepth 100000 in
theorem plain_of {w : World} {a : Addr} {v : Value} (h : w.cell? (a.add 0) = some v) : ∃ b off, a = ⟨b, off, none⟩ := by
  obtain ⟨b, off, spot⟩ := a
  have hspot : spot = none := by simpa [Addr.add] using World.cell?_spot h
  subst hspot
  exact ⟨b, off, rfl⟩
set_option maxRecDepth 100000 in
theorem range_get {α : Type} (f : Nat → α) (len i : Nat) (x : α) (h : ((List.range len).map f)[i]? = some x) : i < len ∧ x = f i := by
  rw [List.getElem?_map] at h
  by_cases hi : i < len
  · simp [hi] at h; exact ⟨hi, h.symm⟩
  · simp [hi] at h
instance : Inhabited Od := ⟨zO⟩
section
variable {H : Type} {enc : TypeId × Value → H} {w : World} {base : Nat} {sp : Nat → Bool} {held : Bool} {r : Reach} {b0 : Nat} {v : Value} {d : DataW H} {p : List MemPlace}
set_option maxRecDepth 100000 in
theorem open22 {k : Nat} {cs : List Value} {x : DataW H × List MemPlace} (h : DataW.trod enc Try.prog w base sp held k 22 cs = some x) : ∃ v l, cs = [v] ∧ IntsAt w v l := by
  obtain ⟨d, p⟩ := x
  rcases open_ints Try.underlying22 Try.underlying3 cells3 h with ⟨e, _⟩ | ⟨ad, len, cap, zs, e, _, hl, hm, hz, _, hc, _⟩
  · exact ⟨_, [], e, ints_nil _⟩
  · have hle : len ≤ zs.length := by rw [hz]; split <;> omega
    refine ⟨_, zs.take len, e, some ad, cap, by simp; omega, by simp; omega, fun hne => ?_⟩
    have hpos : 0 < len := by
      apply Classical.byContradiction; intro h0
      exact hne (by rw [show len = 0 by omega]; rfl)
    obtain ⟨b, off, rfl⟩ := plain_of (hc 0 (by omega))
    refine ⟨b, off, rfl, fun i x hi => ?_⟩
    rw [List.getElem?_take] at hi
    split at hi
    · rename_i hlt
      have := hc i (by omega)
      rw [add_plain] at this
      rw [this]
      simp [List.getD_eq_getElem?_getD, hi]
    · cases hi
set_option maxRecDepth 100000 in
theorem trod_struct2 {P : Program} {t : TypeId} {f0 f1 : Field} {fuel : Nat} {cs : List Value} {x : DataW H × List MemPlace} (ht : P.underlying t = some (.struct #[f0, f1])) (h : DataW.trod enc P w base sp held fuel t cs = some x) :
    ∃ (n : Nat) (ys : Nat → DataW H × List MemPlace), cs.length = P.cellsOf t ∧
      DataW.trod enc P w base sp held n f0.type ((cs.drop f0.offset).take (P.cellsOf f0.type)) = some (ys 0) ∧
      DataW.trod enc P w base sp held n f1.type ((cs.drop f1.offset).take (P.cellsOf f1.type)) = some (ys 1) := by
  obtain ⟨xs, n, _, rfl, hl, hlen, hf⟩ := DataW.trod_struct ht h
  match xs, hlen with
  | [y0, y1], _ => exact ⟨n, fun i => match i with | 0 => y0 | _ => y1, hl, by simpa using hf 0 f0 rfl, by simpa using hf 1 f1 rfl⟩
set_option maxRecDepth 100000 in
theorem trod_struct4 {P : Program} {t : TypeId} {f0 f1 f2 f3 : Field} {fuel : Nat} {cs : List Value} {x : DataW H × List MemPlace} (ht : P.underlying t = some (.struct #[f0, f1, f2, f3])) (h : DataW.trod enc P w base sp held fuel t cs = some x) :
    ∃ (n : Nat) (ys : Nat → DataW H × List MemPlace), cs.length = P.cellsOf t ∧
      DataW.trod enc P w base sp held n f0.type ((cs.drop f0.offset).take (P.cellsOf f0.type)) = some (ys 0) ∧
      DataW.trod enc P w base sp held n f1.type ((cs.drop f1.offset).take (P.cellsOf f1.type)) = some (ys 1) ∧
      DataW.trod enc P w base sp held n f2.type ((cs.drop f2.offset).take (P.cellsOf f2.type)) = some (ys 2) ∧
      DataW.trod enc P w base sp held n f3.type ((cs.drop f3.offset).take (P.cellsOf f3.type)) = some (ys 3) := by
  obtain ⟨xs, n, _, rfl, hl, hlen, hf⟩ := DataW.trod_struct ht h
  match xs, hlen with
  | [y0, y1, y2, y3], _ => exact ⟨n, fun i => match i with | 0 => y0 | 1 => y1 | 2 => y2 | _ => y3, hl, by simpa using hf 0 f0 rfl, by simpa using hf 1 f1 rfl, by simpa using hf 2 f2 rfl, by simpa using hf 3 f3 rfl⟩
set_option maxRecDepth 100000 in
theorem open_od {n : Nat} {cs : List Value} {x : DataW H × List MemPlace} (h : DataW.trod enc Try.prog w base sp held n 27 cs = some x) : ∃ a b c e : Int, cs = [.int .i64 a, .int .i64 b, .int .i64 c, .int .i64 e] := by
  obtain ⟨m, ys, hl, h0, h1, h2, h3⟩ := trod_struct4 Try.underlying27 h
  rw [cells27] at hl
  match cs, hl with
  | [c0, c1, c2, c3], _ =>
    simp only [cells3, List.drop_zero, List.drop_succ_cons, List.take_succ_cons, List.take_zero] at h0 h1 h2 h3
    obtain ⟨a, e0, _⟩ := DataW.trod_int Try.underlying3 h0
    obtain ⟨b, e1, _⟩ := DataW.trod_int Try.underlying3 h1
    obtain ⟨c, e2, _⟩ := DataW.trod_int Try.underlying3 h2
    obtain ⟨e, e3, _⟩ := DataW.trod_int Try.underlying3 h3
    simp only [List.cons.injEq, and_true] at e0 e1 e2 e3
    exact ⟨a, b, c, e, by rw [e0, e1, e2, e3]⟩
set_option maxRecDepth 100000 in
theorem arg_od (hv : Value.okWide Try.prog w r b0 27 v) (h : DataW.Trod enc Try.prog w base sp held 27 v d p) : ∃ o : Od, v = .agg #[.int .i64 o.a, .int .i64 o.b, .int .i64 o.c, .int .i64 o.d] := by
  obtain ⟨cs, rfl, hsz⟩ := okWide_struct Try.underlying27 hv
  obtain ⟨k, h⟩ := h
  obtain ⟨a, b, c, x, e⟩ := open_od h
  refine ⟨⟨a, b, c, x⟩, ?_⟩
  congr 1
  exact Array.toList_inj.1 e
set_option maxRecDepth 100000 in
theorem open_ods {n : Nat} {v : Value} {x : DataW H × List MemPlace} (h : DataW.trod enc Try.prog w base sp held n 23 [v] = some x) : ∃ l, OdsAt w v l := by
  rcases Go.Deep.open_slice Try.underlying23 h with ⟨h0, _⟩ | ⟨a, len, cap, m, k, D, Pl, hv, _, hl, hm, hmm, _, hx⟩
  · simp only [List.cons.injEq, and_true] at h0
    exact ⟨[], by rw [h0]; exact ods_nil w⟩
  · simp only [List.cons.injEq, and_true] at hv
    rw [cells27] at hx
    have hle : len ≤ m := by rw [hmm]; split <;> omega
    obtain ⟨f, hf⟩ := Go.Deep.choose_lt (α := Od) (p := fun i s => w.cells? base (a.add (i * 4)) 4 = some s.cells) (n := len) (fun i hi => by
      obtain ⟨cs', h1, h2⟩ := hx i (by omega)
      obtain ⟨a1, b1, c1, d1, rfl⟩ := open_od h2
      exact ⟨⟨a1, b1, c1, d1⟩, h1⟩)
    refine ⟨(List.range len).map f, some a, cap, by rw [hv]; simp, by simp; omega, by simp; omega, fun hne => ?_⟩
    have hpos : 0 < len := by
      apply Classical.byContradiction; intro h0
      exact hne (by simp; omega)
    have hc := fun i hi => (World.cells?_some (hf i hi)).2.2
    have h00 := hc 0 hpos 0 (by simp)
    rw [Go.Deep.add_add, Nat.zero_mul, Nat.add_zero] at h00
    obtain ⟨b, off, rfl⟩ := plain_of h00
    refine ⟨b, off, rfl, fun i x hi => ?_⟩
    obtain ⟨hlt, rfl⟩ := range_get f len i x hi
    have hj := fun j hj => hc i hlt j hj
    simp only [Go.WideShapes.add_plain] at hj
    exact ⟨hj 0 (by omega), hj 1 (by omega), hj 2 (by omega), hj 3 (by omega)⟩
set_option maxRecDepth 100000 in
theorem open_bel {n : Nat} {cs : List Value} {x : DataW H × List MemPlace} (h : DataW.trod enc Try.prog w base sp held n 25 cs = some x) : ∃ (V : List Int) (L : List Od) (va : Option Addr) (vc : Nat) (sa : Option Addr) (sc : Nat), cs = [.slice va V.length vc, .slice sa L.length sc] ∧ Rb V L va vc sa sc w ∧ V.length ≤ maxLen ∧ L.length ≤ maxLen := by
  obtain ⟨m, ys, hl, h0, h1⟩ := trod_struct2 Try.underlying25 h
  rw [cells25] at hl
  match cs, hl with
  | [c0, c1], _ =>
    simp only [cells22, cells23, List.drop_zero, List.drop_succ_cons, List.take_succ_cons, List.take_zero] at h0 h1
    obtain ⟨v0, V, e0, hi⟩ := open22 h0
    obtain ⟨L, ho⟩ := open_ods h1
    simp only [List.cons.injEq, and_true] at e0
    subst e0
    obtain ⟨va, vc, e1, hm, hx⟩ := hi
    obtain ⟨sa, sc, e2, h5, h6, hy⟩ := ho
    subst e1 e2
    exact ⟨V, L, va, vc, sa, sc, rfl, ⟨⟨va, vc, rfl, hm, hx⟩, ⟨sa, sc, rfl, h5, h6, hy⟩⟩, hm, h6⟩
set_option maxRecDepth 100000 in
theorem arg_bel (hv : Value.okWide Try.prog w r b0 25 v) (h : DataW.Trod enc Try.prog w base sp held 25 v d p) : ∃ (V : List Int) (L : List Od) (va : Option Addr) (vc : Nat) (sa : Option Addr) (sc : Nat), v = .agg #[.slice va V.length vc, .slice sa L.length sc] ∧ Rb V L va vc sa sc w ∧ V.length ≤ maxLen ∧ L.length ≤ maxLen := by
  obtain ⟨cs, rfl, hsz⟩ := okWide_struct Try.underlying25 hv
  obtain ⟨k, h⟩ := h
  obtain ⟨V, L, va, vc, sa, sc, e, h1, h2, h3⟩ := open_bel h
  refine ⟨V, L, va, vc, sa, sc, ?_, h1, h2, h3⟩
  congr 1
  exact Array.toList_inj.1 e
set_option maxRecDepth 100000 in
theorem arg_int {t : TypeId} {k : IntKind} (ht : Try.prog.underlying t = some (.int k)) (hv : Value.okWide Try.prog w r b0 t v) (h : DataW.Trod enc Try.prog w base sp held t v d p) : ∃ x : Int, v = .int k x ∧ k.min ≤ x ∧ x ≤ k.max := by
  obtain ⟨x, rfl, -, -, hw⟩ := open_int ht hv h
  refine ⟨x, rfl, ?_⟩
  have : (decide (k.min ≤ x) && decide (x ≤ k.max)) = true := hw
  rw [Bool.and_eq_true, decide_eq_true_iff, decide_eq_true_iff] at this
  exact this
end
end Go.Proofs.Ytigpopemllamdaa
