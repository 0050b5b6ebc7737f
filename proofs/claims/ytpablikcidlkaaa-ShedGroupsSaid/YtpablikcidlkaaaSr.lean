/- Shedding: how a law's arguments open. -/
import Derived.Test.YtpablikcidlkaaaSp
import Derived.ChangeSame
import Derived.Deep.Strs
import Derived.RowKit
namespace Go.Proofs.Ytpablikcidlkaaa
open Go.RowKit Go.WideShapes Go.ChangeShapes Go.Joins Go.Deep

theorem ownK : ownKnob Try.prog.godebug = none := by kernel_rfl
theorem laidO : laidOutB Try.prog = true := by kernel_rfl
theorem cells34 : Try.prog.cellsOf 34 = 2 := by kernel_rfl
theorem cells22 : Try.prog.cellsOf 22 = 1 := by kernel_rfl
theorem cellsB : Try.prog.cellsOf 4 = 1 := by kernel_rfl
theorem cellsI : Try.prog.cellsOf 3 = 1 := by kernel_rfl
theorem plain_of {w : World} {a : Addr} {v : Value} (h : w.cell? (a.add 0) = some v) : ∃ b off, a = ⟨b, off, none⟩ := by
  obtain ⟨b, off, spot⟩ := a
  have hspot : spot = none := by simpa [Addr.add] using World.cell?_spot h
  subst hspot
  exact ⟨b, off, rfl⟩
theorem range_get {α : Type} (f : Nat → α) (len i : Nat) (x : α) (h : ((List.range len).map f)[i]? = some x) : i < len ∧ x = f i := by
  rw [List.getElem?_map] at h
  by_cases hi : i < len
  · simp [hi] at h; exact ⟨hi, h.symm⟩
  · simp [hi] at h
section
variable {H : Type} {enc : TypeId × Value → H} {w : World} {base : Nat} {sp : Nat → Bool} {held : Bool} {r : Reach} {b0 : Nat} {v : Value} {d : DataW H} {p : List MemPlace}
theorem trod_struct2 {P : Program} {t : TypeId} {f0 f1 : Field} {fuel : Nat} {cs : List Value} {x : DataW H × List MemPlace} (ht : P.underlying t = some (.struct #[f0, f1])) (h : DataW.trod enc P w base sp held fuel t cs = some x) :
    ∃ (n : Nat) (ys : Nat → DataW H × List MemPlace), cs.length = P.cellsOf t ∧
      DataW.trod enc P w base sp held n f0.type ((cs.drop f0.offset).take (P.cellsOf f0.type)) = some (ys 0) ∧
      DataW.trod enc P w base sp held n f1.type ((cs.drop f1.offset).take (P.cellsOf f1.type)) = some (ys 1) := by
  obtain ⟨xs, n, _, rfl, hl, hlen, hf⟩ := DataW.trod_struct ht h
  match xs, hlen with
  | [y0, y1], _ => exact ⟨n, fun i => match i with | 0 => y0 | _ => y1, hl, by simpa using hf 0 f0 rfl, by simpa using hf 1 f1 rfl⟩
theorem open_con {n : Nat} {cs : List Value} {x : DataW H × List MemPlace} (h : DataW.trod enc Try.prog w base sp held n 34 cs = some x) : ∃ s : Int × Int, cs = [.int .i64 s.1, .int .i64 s.2] := by
  obtain ⟨m, ys, hl, h0, h1⟩ := trod_struct2 Try.underlying34 h
  rw [cells34] at hl
  match cs, hl with
  | [c0, c1], _ =>
    simp only [cellsI, List.drop_zero, List.drop_succ_cons, List.take_succ_cons, List.take_zero] at h0 h1
    obtain ⟨s0, e0, _⟩ := DataW.trod_int Try.underlying3 h0
    obtain ⟨s1, e1, _⟩ := DataW.trod_int Try.underlying3 h1
    simp only [List.cons.injEq, and_true] at e0 e1
    exact ⟨⟨s0, s1⟩, by rw [e0, e1]⟩
theorem open_cons {n : Nat} {v : Value} {x : DataW H × List MemPlace} (h : DataW.trod enc Try.prog w base sp held n 22 [v] = some x) : ∃ l, ConsAt w v l := by
  rcases Go.Deep.open_slice Try.underlying22 h with ⟨h0, _⟩ | ⟨a, len, cap, m, k, D, Pl, hv, _, hl, hm, hmm, _, hx⟩
  · simp only [List.cons.injEq, and_true] at h0
    exact ⟨[], ⟨none, 0, h0, by simp, by simp, fun h => absurd rfl h⟩⟩
  · simp only [List.cons.injEq, and_true] at hv
    rw [cells34] at hx
    have hle : len ≤ m := by rw [hmm]; split <;> omega
    obtain ⟨f, hf⟩ := Go.Deep.choose_lt (α := Int × Int) (p := fun i s => w.cells? base (a.add (i * 2)) 2 = some [.int .i64 s.1, .int .i64 s.2]) (n := len) (fun i hi => by
      obtain ⟨cs', h1, h2⟩ := hx i (by omega)
      obtain ⟨s, rfl⟩ := open_con h2
      exact ⟨s, h1⟩)
    refine ⟨(List.range len).map f, ⟨some a, cap, by rw [hv]; simp, by simp; omega, by simp; omega, fun hne => ?_⟩⟩
    have hpos : 0 < len := by
      apply Classical.byContradiction; intro h0
      exact hne (by simp; omega)
    have hc := fun i hi => (World.cells?_some (hf i hi)).2.2
    have h00 := hc 0 hpos 0 (by omega)
    rw [Go.Deep.add_add, Nat.zero_mul, Nat.add_zero] at h00
    obtain ⟨b, off, rfl⟩ := plain_of h00
    refine ⟨b, off, rfl, fun i x hi => ?_⟩
    obtain ⟨hlt, rfl⟩ := range_get f len i x hi
    have hj := fun j hj => hc i hlt j hj
    simp only [Go.WideShapes.add_plain] at hj
    exact ⟨hj 0 (by omega), hj 1 (by omega)⟩
theorem arg_con (hv : Value.okWide Try.prog w r b0 34 v) (h : DataW.Trod enc Try.prog w base sp held 34 v d p) : ∃ x y : Int, v = .agg #[.int .i64 x, .int .i64 y] := by
  obtain ⟨cs, rfl, hsz⟩ := okWide_struct Try.underlying34 hv
  obtain ⟨k, h⟩ := h
  obtain ⟨s, e⟩ := open_con h
  refine ⟨s.1, s.2, ?_⟩
  congr 1
  exact Array.toList_inj.1 e
theorem arg_cons (hv : Value.okWide Try.prog w r b0 22 v) (h : DataW.Trod enc Try.prog w base sp held 22 v d p) : ∃ l : List (Int × Int), ConsAt w v l := by
  obtain ⟨a, n, c, rfl⟩ := okWide_slice Try.underlying22 hv
  obtain ⟨k, h⟩ := h
  exact open_cons (v := .slice a n c) h
theorem open_bos {n : Nat} {v : Value} {x : DataW H × List MemPlace} (h : DataW.trod enc Try.prog w base sp held n 23 [v] = some x) : ∃ l, BosAt w v l := by
  rcases Go.Deep.open_slice Try.underlying23 h with ⟨h0, _⟩ | ⟨a, len, cap, m, k, D, Pl, hv, _, hl, hm, hmm, _, hx⟩
  · simp only [List.cons.injEq, and_true] at h0
    exact ⟨[], ⟨none, 0, h0, by simp, by simp, fun h => absurd rfl h⟩⟩
  · simp only [List.cons.injEq, and_true] at hv
    rw [cellsB] at hx
    have hle : len ≤ m := by rw [hmm]; split <;> omega
    obtain ⟨f, hf⟩ := Go.Deep.choose_lt (α := Bool) (p := fun i s => w.cells? base (a.add (i * 1)) 1 = some [.bool s]) (n := len) (fun i hi => by
      obtain ⟨cs', h1, h2⟩ := hx i (by omega)
      obtain ⟨s, rfl, _⟩ := DataW.trod_bool Try.underlying4 h2
      exact ⟨s, h1⟩)
    refine ⟨(List.range len).map f, ⟨some a, cap, by rw [hv]; simp, by simp; omega, by simp; omega, fun hne => ?_⟩⟩
    have hpos : 0 < len := by
      apply Classical.byContradiction; intro h0
      exact hne (by simp; omega)
    have hc := fun i hi => (World.cells?_some (hf i hi)).2.2
    have h00 := hc 0 hpos 0 (by omega)
    rw [Go.Deep.add_add, Nat.zero_mul, Nat.add_zero] at h00
    obtain ⟨b, off, rfl⟩ := plain_of h00
    refine ⟨b, off, rfl, fun i x hi => ?_⟩
    obtain ⟨hlt, rfl⟩ := range_get f len i x hi
    have hj := fun j hj => hc i hlt j hj
    simp only [Go.WideShapes.add_plain, Nat.mul_one] at hj
    exact hj 0 (by omega)
theorem arg_bos (hv : Value.okWide Try.prog w r b0 23 v) (h : DataW.Trod enc Try.prog w base sp held 23 v d p) : ∃ l, BosAt w v l := by
  obtain ⟨a, n, c, rfl⟩ := okWide_slice Try.underlying23 hv
  obtain ⟨k, h⟩ := h
  exact open_bos (v := .slice a n c) h
theorem arg_int {t : TypeId} {k : IntKind} (ht : Try.prog.underlying t = some (.int k)) (hv : Value.okWide Try.prog w r b0 t v) (h : DataW.Trod enc Try.prog w base sp held t v d p) : ∃ x : Int, v = .int k x ∧ k.min ≤ x ∧ x ≤ k.max := by
  obtain ⟨x, rfl, -, -, hw⟩ := open_int ht hv h
  refine ⟨x, rfl, ?_⟩
  have : (decide (k.min ≤ x) && decide (x ≤ k.max)) = true := hw
  rw [Bool.and_eq_true, decide_eq_true_iff, decide_eq_true_iff] at this
  exact this
end
end Go.Proofs.Ytpablikcidlkaaa
