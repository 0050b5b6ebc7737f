/- Frames: how a law's arguments open. -/
import Derived.Test.YtebeaekiaikgmaaFl
import Derived.ChangeSame
import Derived.Deep.Strs
import Derived.RowKit
namespace Go.Proofs.Ytebeaekiaikgmaa
open Go.RowKit Go.WideShapes Go.ChangeShapes Go.Joins Go.Deep

theorem ownK : ownKnob Try.prog.godebug = none := by kernel_rfl
theorem laidO : laidOutB Try.prog = true := by kernel_rfl
theorem cells3 : Try.prog.cellsOf 3 = 1 := by kernel_rfl
theorem cells4 : Try.prog.cellsOf 4 = 1 := by kernel_rfl
theorem cells5 : Try.prog.cellsOf 5 = 1 := by kernel_rfl
theorem cells22 : Try.prog.cellsOf 22 = 1 := by kernel_rfl
theorem cells24 : Try.prog.cellsOf 24 = 6 := by kernel_rfl
theorem cells26 : Try.prog.cellsOf 26 = 1 := by kernel_rfl
theorem cells28 : Try.prog.cellsOf 28 = 2 := by kernel_rfl
theorem plain_of {w : World} {a : Addr} {v : Value} (h : w.cell? (a.add 0) = some v) : ∃ b off, a = ⟨b, off, none⟩ := by
  obtain ⟨b, off, spot⟩ := a
  have hspot : spot = none := by simpa [Addr.add] using World.cell?_spot h
  subst hspot
  exact ⟨b, off, rfl⟩
theorem range_get {α : Type} (f : Nat → α) (len i : Nat) (x : α) (h : ((List.range len).map f)[i]? = some x) : i < len ∧ x = f i := by
  rw [List.getElem?_map] at h
  by_cases hi : i < len
  · simp [hi] at h; exact ⟨hi, h.symm⟩
  · simp [hi] at h
section
variable {H : Type} {enc : TypeId × Value → H} {w : World} {base : Nat} {sp : Nat → Bool} {held : Bool} {r : Reach} {b0 : Nat} {v : Value} {d : DataW H} {p : List MemPlace}
theorem open22 {k : Nat} {cs : List Value} {x : DataW H × List MemPlace} (h : DataW.trod enc Try.prog w base sp held k 22 cs = some x) : ∃ v l, cs = [v] ∧ IntsAt w v l := by
  obtain ⟨d, p⟩ := x
  rcases open_ints Try.underlying22 Try.underlying3 cells3 h with ⟨e, _⟩ | ⟨ad, len, cap, zs, e, _, hl, hm, hz, _, hc, _⟩
  · exact ⟨_, [], e, ints_nil _⟩
  · have hle : len ≤ zs.length := by rw [hz]; split <;> omega
    refine ⟨_, zs.take len, e, some ad, cap, by simp; omega, by simp; omega, fun hne => ?_⟩
    have hpos : 0 < len := by
      apply Classical.byContradiction; intro h0
      exact hne (by rw [show len = 0 by omega]; rfl)
    obtain ⟨b, off, rfl⟩ := plain_of (hc 0 (by omega))
    refine ⟨b, off, rfl, fun i x hi => ?_⟩
    rw [List.getElem?_take] at hi
    split at hi
    · rename_i hlt
      have := hc i (by omega)
      rw [add_plain] at this
      rw [this]
      simp [List.getD_eq_getElem?_getD, hi]
    · cases hi
theorem arg_ints (hv : Value.okWide Try.prog w r b0 22 v) (h0 : DataW.Trod enc Try.prog w base sp held 22 v d p) : ∃ l, IntsAt w v l := by
  obtain ⟨a, n, c, rfl⟩ := okWide_slice Try.underlying22 hv
  obtain ⟨k, h⟩ := h0
  obtain ⟨v, l, e, h1⟩ := open22 (cs := [.slice a n c]) h
  simp only [List.cons.injEq, and_true] at e
  exact ⟨l, by rw [e]; exact h1⟩
theorem trod_struct6 {P : Program} {t : TypeId} {f0 f1 f2 f3 f4 f5 : Field} {fuel : Nat} {cs : List Value} {x : DataW H × List MemPlace} (ht : P.underlying t = some (.struct #[f0, f1, f2, f3, f4, f5])) (h : DataW.trod enc P w base sp held fuel t cs = some x) :
    ∃ (n : Nat) (ys : Nat → DataW H × List MemPlace), cs.length = P.cellsOf t ∧
      DataW.trod enc P w base sp held n f0.type ((cs.drop f0.offset).take (P.cellsOf f0.type)) = some (ys 0) ∧
      DataW.trod enc P w base sp held n f1.type ((cs.drop f1.offset).take (P.cellsOf f1.type)) = some (ys 1) ∧
      DataW.trod enc P w base sp held n f2.type ((cs.drop f2.offset).take (P.cellsOf f2.type)) = some (ys 2) ∧
      DataW.trod enc P w base sp held n f3.type ((cs.drop f3.offset).take (P.cellsOf f3.type)) = some (ys 3) ∧
      DataW.trod enc P w base sp held n f4.type ((cs.drop f4.offset).take (P.cellsOf f4.type)) = some (ys 4) ∧
      DataW.trod enc P w base sp held n f5.type ((cs.drop f5.offset).take (P.cellsOf f5.type)) = some (ys 5) := by
  obtain ⟨xs, n, _, rfl, hl, hlen, hf⟩ := DataW.trod_struct ht h
  match xs, hlen with
  | [y0, y1, y2, y3, y4, y5], _ =>
    refine ⟨n, fun i => match i with | 0 => y0 | 1 => y1 | 2 => y2 | 3 => y3 | 4 => y4 | _ => y5, hl, by simpa using hf 0 f0 rfl, by simpa using hf 1 f1 rfl, by simpa using hf 2 f2 rfl, by simpa using hf 3 f3 rfl, by simpa using hf 4 f4 rfl, by simpa using hf 5 f5 rfl⟩
theorem trod_struct2 {P : Program} {t : TypeId} {f0 f1 : Field} {fuel : Nat} {cs : List Value} {x : DataW H × List MemPlace} (ht : P.underlying t = some (.struct #[f0, f1])) (h : DataW.trod enc P w base sp held fuel t cs = some x) :
    ∃ (n : Nat) (ys : Nat → DataW H × List MemPlace), cs.length = P.cellsOf t ∧
      DataW.trod enc P w base sp held n f0.type ((cs.drop f0.offset).take (P.cellsOf f0.type)) = some (ys 0) ∧
      DataW.trod enc P w base sp held n f1.type ((cs.drop f1.offset).take (P.cellsOf f1.type)) = some (ys 1) := by
  obtain ⟨xs, n, _, rfl, hl, hlen, hf⟩ := DataW.trod_struct ht h
  match xs, hlen with
  | [y0, y1], _ => exact ⟨n, fun i => match i with | 0 => y0 | _ => y1, hl, by simpa using hf 0 f0 rfl, by simpa using hf 1 f1 rfl⟩
theorem open_fr {n : Nat} {cs : List Value} {x : DataW H × List MemPlace} (h : DataW.trod enc Try.prog w base sp held n 24 cs = some x) :
    ∃ (a b c d t : Int) (sv : Value) (l : List Int), cs = [.int .i64 a, .int .i64 b, .int .i64 c, .int .i64 d, sv, .int .i64 t] ∧ IntsAt w sv l := by
  obtain ⟨m, ys, hl, h0, h1, h2, h3, h4, h5⟩ := trod_struct6 Try.underlying24 h
  rw [cells24] at hl
  match cs, hl with
  | [c0, c1, c2, c3, c4, c5], _ =>
    simp only [cells3, cells22, List.drop_zero, List.drop_succ_cons, List.take_succ_cons, List.take_zero] at h0 h1 h2 h3 h4 h5
    obtain ⟨s0, e0, _⟩ := DataW.trod_int Try.underlying3 h0
    obtain ⟨s1, e1, _⟩ := DataW.trod_int Try.underlying3 h1
    obtain ⟨s2, e2, _⟩ := DataW.trod_int Try.underlying3 h2
    obtain ⟨s3, e3, _⟩ := DataW.trod_int Try.underlying3 h3
    obtain ⟨sv, l, e4, hs⟩ := open22 h4
    obtain ⟨s5, e5, _⟩ := DataW.trod_int Try.underlying3 h5
    simp only [List.cons.injEq, and_true] at e0 e1 e2 e3 e4 e5
    exact ⟨s0, s1, s2, s3, s5, sv, l, by rw [e0, e1, e2, e3, e4, e5], hs⟩
theorem arg_fr (hv : Value.okWide Try.prog w r b0 24 v) (h : DataW.Trod enc Try.prog w base sp held 24 v d p) : ∃ (a b c d t : Int) (sv : Value) (l : List Int), v = .agg #[.int .i64 a, .int .i64 b, .int .i64 c, .int .i64 d, sv, .int .i64 t] ∧ IntsAt w sv l := by
  obtain ⟨cs, rfl, hsz⟩ := okWide_struct Try.underlying24 hv
  obtain ⟨k, h⟩ := h
  obtain ⟨a, b, c, d, t, sv, l, e, hl⟩ := open_fr h
  refine ⟨a, b, c, d, t, sv, l, ?_, hl⟩
  congr 1
  exact Array.toList_inj.1 e
theorem open_bys {n : Nat} {v : Value} {x : DataW H × List MemPlace} (h : DataW.trod enc Try.prog w base sp held n 25 [v] = some x) : ∃ l, BysAt w v l ∧ IsBy l := by
  rcases Go.Deep.open_slice Try.underlying25 h with ⟨h0, _⟩ | ⟨a, len, cap, m, k, D, Pl, hv, _, hl, hm, hmm, _, hx⟩
  · simp only [List.cons.injEq, and_true] at h0
    exact ⟨[], ⟨none, 0, h0, by simp, by simp, fun h => absurd rfl h⟩, fun x hx => by cases hx⟩
  · simp only [List.cons.injEq, and_true] at hv
    rw [cells5] at hx
    have hle : len ≤ m := by rw [hmm]; split <;> omega
    obtain ⟨f, hf⟩ := Go.Deep.choose_lt (α := Int) (p := fun i s => w.cells? base (a.add (i * 1)) 1 = some [.int .u8 s] ∧ 0 ≤ s ∧ s ≤ 255) (n := len) (fun i hi => by
      obtain ⟨cs', h1, h2⟩ := hx i (by omega)
      obtain ⟨s, rfl, _, g⟩ := DataW.trod_int Try.underlying5 h2
      have g4 : (decide (IntKind.u8.min ≤ s) && decide (s ≤ IntKind.u8.max)) = true := g
      rw [Bool.and_eq_true, decide_eq_true_iff, decide_eq_true_iff] at g4
      exact ⟨s, h1, g4⟩)
    refine ⟨(List.range len).map f, ⟨some a, cap, by rw [hv]; simp, by simp; omega, by simp; omega, fun hne => ?_⟩, fun x hx => ?_⟩
    · have hpos : 0 < len := by
        apply Classical.byContradiction; intro h0
        exact hne (by simp; omega)
      have hc := fun i hi => (World.cells?_some (hf i hi).1).2.2
      have h00 := hc 0 hpos 0 (by omega)
      rw [Go.Deep.add_add, Nat.zero_mul, Nat.add_zero] at h00
      obtain ⟨b, off, rfl⟩ := plain_of h00
      refine ⟨b, off, rfl, fun i x hi => ?_⟩
      obtain ⟨hlt, rfl⟩ := range_get f len i x hi
      have hj := fun j hj => hc i hlt j hj
      simp only [Go.WideShapes.add_plain, Nat.mul_one] at hj
      exact hj 0 (by omega)
    · obtain ⟨i, hi, rfl⟩ := List.mem_map.1 hx
      exact (hf i (by simpa using hi)).2
theorem arg_bys (hv : Value.okWide Try.prog w r b0 25 v) (h : DataW.Trod enc Try.prog w base sp held 25 v d p) : ∃ l, BysAt w v l ∧ IsBy l := by
  obtain ⟨a, n, c, rfl⟩ := okWide_slice Try.underlying25 hv
  obtain ⟨k, h⟩ := h
  exact open_bys (v := .slice a n c) h
theorem open_bos {n : Nat} {v : Value} {x : DataW H × List MemPlace} (h : DataW.trod enc Try.prog w base sp held n 26 [v] = some x) : ∃ l, BosAt w v l ∧ ∀ a n c, v = .slice a n c → n ≤ c := by
  rcases Go.Deep.open_slice Try.underlying26 h with ⟨h0, _⟩ | ⟨a, len, cap, m, k, D, Pl, hv, _, hl, hm, hmm, _, hx⟩
  · simp only [List.cons.injEq, and_true] at h0
    exact ⟨[], ⟨none, 0, h0, by simp, fun h => absurd rfl h⟩, fun a n c e => by rw [h0] at e; cases e; exact Nat.le_refl _⟩
  · simp only [List.cons.injEq, and_true] at hv
    rw [cells4] at hx
    have hle : len ≤ m := by rw [hmm]; split <;> omega
    obtain ⟨f, hf⟩ := Go.Deep.choose_lt (α := Bool) (p := fun i s => w.cells? base (a.add (i * 1)) 1 = some [.bool s]) (n := len) (fun i hi => by
      obtain ⟨cs', h1, h2⟩ := hx i (by omega)
      obtain ⟨s, rfl, _⟩ := DataW.trod_bool Try.underlying4 h2
      exact ⟨s, h1⟩)
    refine ⟨(List.range len).map f, ⟨some a, cap, by rw [hv]; simp, by simp; omega, fun hne => ?_⟩, fun a' n c e => by rw [hv] at e; cases e; exact hl⟩
    have hpos : 0 < len := by
      apply Classical.byContradiction; intro h0
      exact hne (by simp; omega)
    have hc := fun i hi => (World.cells?_some (hf i hi)).2.2
    have h00 := hc 0 hpos 0 (by omega)
    rw [Go.Deep.add_add, Nat.zero_mul, Nat.add_zero] at h00
    obtain ⟨b, off, rfl⟩ := plain_of h00
    refine ⟨b, off, rfl, fun i x hi => ?_⟩
    obtain ⟨hlt, rfl⟩ := range_get f len i x hi
    have hj := fun j hj => hc i hlt j hj
    simp only [Go.WideShapes.add_plain, Nat.mul_one] at hj
    exact hj 0 (by omega)
theorem open_seqs {n : Nat} {cs : List Value} {x : DataW H × List MemPlace} (h : DataW.trod enc Try.prog w base sp held n 28 cs = some x) : ∃ (t : Int) (sv : Value) (l : List Bool), cs = [.int .i64 t, sv] ∧ BosAt w sv l ∧ (∀ a n c, sv = .slice a n c → n ≤ c) ∧ IntKind.i64.min ≤ t ∧ t ≤ IntKind.i64.max := by
  obtain ⟨m, ys, hl, h0, h1⟩ := trod_struct2 Try.underlying28 h
  rw [cells28] at hl
  match cs, hl with
  | [c0, c1], _ =>
    simp only [cells3, cells26, List.drop_zero, List.drop_succ_cons, List.take_succ_cons, List.take_zero] at h0 h1
    obtain ⟨s0, e0, _, g⟩ := DataW.trod_int Try.underlying3 h0
    have g4 : (decide (IntKind.i64.min ≤ s0) && decide (s0 ≤ IntKind.i64.max)) = true := g
    rw [Bool.and_eq_true, decide_eq_true_iff, decide_eq_true_iff] at g4
    obtain ⟨l, hb, hc⟩ := open_bos h1
    simp only [List.cons.injEq, and_true] at e0
    exact ⟨s0, c1, l, by rw [e0], hb, hc, g4.1, g4.2⟩
theorem arg_seqs (hv : Value.okWide Try.prog w r b0 28 v) (h : DataW.Trod enc Try.prog w base sp held 28 v d p) : ∃ (t : Int) (sv : Value) (l : List Bool), v = .agg #[.int .i64 t, sv] ∧ BosAt w sv l ∧ (∀ a n c, sv = .slice a n c → n ≤ c) ∧ IntKind.i64.min ≤ t ∧ t ≤ IntKind.i64.max := by
  obtain ⟨cs, rfl, hsz⟩ := okWide_struct Try.underlying28 hv
  obtain ⟨k, h⟩ := h
  obtain ⟨t, sv, l, e, h1, h2, h3, h4⟩ := open_seqs h
  refine ⟨t, sv, l, ?_, h1, h2, h3, h4⟩
  congr 1
  exact Array.toList_inj.1 e
theorem arg_int {t : TypeId} {k : IntKind} (ht : Try.prog.underlying t = some (.int k)) (hv : Value.okWide Try.prog w r b0 t v) (h : DataW.Trod enc Try.prog w base sp held t v d p) : ∃ x : Int, v = .int k x ∧ k.min ≤ x ∧ x ≤ k.max := by
  obtain ⟨x, rfl, -, -, hw⟩ := open_int ht hv h
  refine ⟨x, rfl, ?_⟩
  have : (decide (k.min ≤ x) && decide (x ≤ k.max)) = true := hw
  rw [Bool.and_eq_true, decide_eq_true_iff, decide_eq_true_iff] at this
  exact this
end
end Go.Proofs.Ytebeaekiaikgmaa
