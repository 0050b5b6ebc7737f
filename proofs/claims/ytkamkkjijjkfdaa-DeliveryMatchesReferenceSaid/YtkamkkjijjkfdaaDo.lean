/- Delivery: how a law's arguments open. -/
import Derived.Test.YtkamkkjijjkfdaaDn
import Derived.ChangeSame
import Derived.Deep.Strs
import Derived.RowKit
namespace Go.Proofs.Ytkamkkjijjkfdaa
open Go.RowKit Go.WideShapes Go.ChangeShapes Go.Joins Go.Deep

theorem ownK : ownKnob Try.prog.godebug = none := by kernel_rfl
theorem laidO : laidOutB Try.prog = true := by kernel_rfl
theorem cells3 : Try.prog.cellsOf 3 = 1 := by kernel_rfl
theorem cells4 : Try.prog.cellsOf 4 = 1 := by kernel_rfl
theorem cells22 : Try.prog.cellsOf 22 = 1 := by kernel_rfl
theorem cells24 : Try.prog.cellsOf 24 = 2 := by kernel_rfl
theorem cells25 : Try.prog.cellsOf 25 = 1 := by kernel_rfl
theorem cells27 : Try.prog.cellsOf 27 = 2 := by kernel_rfl
theorem cells28 : Try.prog.cellsOf 28 = 1 := by kernel_rfl
theorem cells30 : Try.prog.cellsOf 30 = 5 := by kernel_rfl
theorem cells32 : Try.prog.cellsOf 32 = 4 := by kernel_rfl
theorem plain_of {w : World} {a : Addr} {v : Value} (h : w.cell? (a.add 0) = some v) : ∃ b off, a = ⟨b, off, none⟩ := by
  obtain ⟨b, off, spot⟩ := a
  have hspot : spot = none := by simpa [Addr.add] using World.cell?_spot h
  subst hspot
  exact ⟨b, off, rfl⟩
theorem range_get {α : Type} (f : Nat → α) (len i : Nat) (x : α) (h : ((List.range len).map f)[i]? = some x) : i < len ∧ x = f i := by
  rw [List.getElem?_map] at h
  by_cases hi : i < len
  · simp [hi] at h; exact ⟨hi, h.symm⟩
  · simp [hi] at h
section
variable {H : Type} {enc : TypeId × Value → H} {w : World} {base : Nat} {sp : Nat → Bool} {held : Bool} {r : Reach} {b0 : Nat} {v : Value} {d : DataW H} {p : List MemPlace}
theorem open28 {k : Nat} {cs : List Value} {x : DataW H × List MemPlace} (h : DataW.trod enc Try.prog w base sp held k 28 cs = some x) : ∃ v l, cs = [v] ∧ IntsAt w v l := by
  obtain ⟨d, p⟩ := x
  rcases open_ints Try.underlying28 Try.underlying3 cells3 h with ⟨e, _⟩ | ⟨ad, len, cap, zs, e, _, hl, hm, hz, _, hc, _⟩
  · exact ⟨_, [], e, ints_nil _⟩
  · have hle : len ≤ zs.length := by rw [hz]; split <;> omega
    refine ⟨_, zs.take len, e, some ad, cap, by simp; omega, by simp; omega, fun hne => ?_⟩
    have hpos : 0 < len := by
      apply Classical.byContradiction; intro h0
      exact hne (by rw [show len = 0 by omega]; rfl)
    obtain ⟨b, off, rfl⟩ := plain_of (hc 0 (by omega))
    refine ⟨b, off, rfl, fun i x hi => ?_⟩
    rw [List.getElem?_take] at hi
    split at hi
    · rename_i hlt
      have := hc i (by omega)
      rw [add_plain] at this
      rw [this]
      simp [List.getD_eq_getElem?_getD, hi]
    · cases hi
theorem arg_ints (hv : Value.okWide Try.prog w r b0 28 v) (h0 : DataW.Trod enc Try.prog w base sp held 28 v d p) : ∃ l, IntsAt w v l := by
  obtain ⟨a, n, c, rfl⟩ := okWide_slice Try.underlying28 hv
  obtain ⟨k, h⟩ := h0
  obtain ⟨v, l, e, h1⟩ := open28 (cs := [.slice a n c]) h
  simp only [List.cons.injEq, and_true] at e
  exact ⟨l, by rw [e]; exact h1⟩
theorem trod_struct2 {P : Program} {t : TypeId} {f0 f1 : Field} {fuel : Nat} {cs : List Value} {x : DataW H × List MemPlace} (ht : P.underlying t = some (.struct #[f0, f1])) (h : DataW.trod enc P w base sp held fuel t cs = some x) :
    ∃ (n : Nat) (ys : Nat → DataW H × List MemPlace), cs.length = P.cellsOf t ∧
      DataW.trod enc P w base sp held n f0.type ((cs.drop f0.offset).take (P.cellsOf f0.type)) = some (ys 0) ∧
      DataW.trod enc P w base sp held n f1.type ((cs.drop f1.offset).take (P.cellsOf f1.type)) = some (ys 1) := by
  obtain ⟨xs, n, _, rfl, hl, hlen, hf⟩ := DataW.trod_struct ht h
  match xs, hlen with
  | [y0, y1], _ => exact ⟨n, fun i => match i with | 0 => y0 | _ => y1, hl, by simpa using hf 0 f0 rfl, by simpa using hf 1 f1 rfl⟩
theorem trod_struct4 {P : Program} {t : TypeId} {f0 f1 f2 f3 : Field} {fuel : Nat} {cs : List Value} {x : DataW H × List MemPlace} (ht : P.underlying t = some (.struct #[f0, f1, f2, f3])) (h : DataW.trod enc P w base sp held fuel t cs = some x) :
    ∃ (n : Nat) (ys : Nat → DataW H × List MemPlace), cs.length = P.cellsOf t ∧
      DataW.trod enc P w base sp held n f0.type ((cs.drop f0.offset).take (P.cellsOf f0.type)) = some (ys 0) ∧
      DataW.trod enc P w base sp held n f1.type ((cs.drop f1.offset).take (P.cellsOf f1.type)) = some (ys 1) ∧
      DataW.trod enc P w base sp held n f2.type ((cs.drop f2.offset).take (P.cellsOf f2.type)) = some (ys 2) ∧
      DataW.trod enc P w base sp held n f3.type ((cs.drop f3.offset).take (P.cellsOf f3.type)) = some (ys 3) := by
  obtain ⟨xs, n, _, rfl, hl, hlen, hf⟩ := DataW.trod_struct ht h
  match xs, hlen with
  | [y0, y1, y2, y3], _ => exact ⟨n, fun i => match i with | 0 => y0 | 1 => y1 | 2 => y2 | _ => y3, hl, by simpa using hf 0 f0 rfl, by simpa using hf 1 f1 rfl, by simpa using hf 2 f2 rfl, by simpa using hf 3 f3 rfl⟩
theorem open_bos {n : Nat} {v : Value} {x : DataW H × List MemPlace} (h : DataW.trod enc Try.prog w base sp held n 25 [v] = some x) : ∃ l, BosAt w v l ∧ ∀ a n c, v = .slice a n c → n ≤ c := by
  rcases Go.Deep.open_slice Try.underlying25 h with ⟨h0, _⟩ | ⟨a, len, cap, m, k, D, Pl, hv, _, hl, hm, hmm, _, hx⟩
  · simp only [List.cons.injEq, and_true] at h0
    exact ⟨[], ⟨none, 0, h0, by simp, fun h => absurd rfl h⟩, fun a n c e => by rw [h0] at e; cases e; exact Nat.le_refl _⟩
  · simp only [List.cons.injEq, and_true] at hv
    rw [cells4] at hx
    have hle : len ≤ m := by rw [hmm]; split <;> omega
    obtain ⟨f, hf⟩ := Go.Deep.choose_lt (α := Bool) (p := fun i s => w.cells? base (a.add (i * 1)) 1 = some [.bool s]) (n := len) (fun i hi => by
      obtain ⟨cs', h1, h2⟩ := hx i (by omega)
      obtain ⟨s, rfl, _⟩ := DataW.trod_bool Try.underlying4 h2
      exact ⟨s, h1⟩)
    refine ⟨(List.range len).map f, ⟨some a, cap, by rw [hv]; simp, by simp; omega, fun hne => ?_⟩, fun a' n c e => by rw [hv] at e; cases e; exact hl⟩
    have hpos : 0 < len := by
      apply Classical.byContradiction; intro h0
      exact hne (by simp; omega)
    have hc := fun i hi => (World.cells?_some (hf i hi)).2.2
    have h00 := hc 0 hpos 0 (by omega)
    rw [Go.Deep.add_add, Nat.zero_mul, Nat.add_zero] at h00
    obtain ⟨b, off, rfl⟩ := plain_of h00
    refine ⟨b, off, rfl, fun i x hi => ?_⟩
    obtain ⟨hlt, rfl⟩ := range_get f len i x hi
    have hj := fun j hj => hc i hlt j hj
    simp only [Go.WideShapes.add_plain, Nat.mul_one] at hj
    exact hj 0 (by omega)
theorem open_seqs {n : Nat} {cs : List Value} {x : DataW H × List MemPlace} (h : DataW.trod enc Try.prog w base sp held n 27 cs = some x) : ∃ (t : Int) (sv : Value) (l : List Bool), cs = [.int .i64 t, sv] ∧ BosAt w sv l ∧ (∀ a n c, sv = .slice a n c → n ≤ c) ∧ IntKind.i64.min ≤ t ∧ t ≤ IntKind.i64.max := by
  obtain ⟨m, ys, hl, h0, h1⟩ := trod_struct2 Try.underlying27 h
  rw [cells27] at hl
  match cs, hl with
  | [c0, c1], _ =>
    simp only [cells3, cells25, List.drop_zero, List.drop_succ_cons, List.take_succ_cons, List.take_zero] at h0 h1
    obtain ⟨s0, e0, _, g⟩ := DataW.trod_int Try.underlying3 h0
    have g4 : (decide (IntKind.i64.min ≤ s0) && decide (s0 ≤ IntKind.i64.max)) = true := g
    rw [Bool.and_eq_true, decide_eq_true_iff, decide_eq_true_iff] at g4
    obtain ⟨l, hb, hc⟩ := open_bos h1
    simp only [List.cons.injEq, and_true] at e0
    exact ⟨s0, c1, l, by rw [e0], hb, hc, g4.1, g4.2⟩
theorem open_rc {n : Nat} {cs : List Value} {x : DataW H × List MemPlace} (h : DataW.trod enc Try.prog w base sp held n 30 cs = some x) : ∃ (t f dn : Int) (s u : Value) (L : List Bool) (l : List Int), cs = [.int .i64 t, s, .int .i64 f, u, .int .i64 dn] ∧ BosAt w s L ∧ (∀ a n c, s = .slice a n c → n ≤ c) ∧ IntsAt w u l := by
  obtain ⟨m, ys, hl, h0, h1, h2, h3⟩ := trod_struct4 Try.underlying30 h
  rw [cells30] at hl
  match cs, hl with
  | [c0, c1, c2, c3, c4], _ =>
    simp only [cells3, cells27, cells28, List.drop_zero, List.drop_succ_cons, List.take_succ_cons, List.take_zero] at h0 h1 h2 h3
    obtain ⟨t, s, L, e0, q1, q2, -, -⟩ := open_seqs h0
    obtain ⟨f, e1, _⟩ := DataW.trod_int Try.underlying3 h1
    obtain ⟨u, l, e2, q3⟩ := open28 h2
    obtain ⟨dn, e3, _⟩ := DataW.trod_int Try.underlying3 h3
    simp only [List.cons.injEq, and_true] at e0 e1 e2 e3
    exact ⟨t, f, dn, s, u, L, l, by rw [e0.1, e0.2, e1, e2, e3], q1, q2, q3⟩
theorem arg_rc (hv : Value.okWide Try.prog w r b0 30 v) (h : DataW.Trod enc Try.prog w base sp held 30 v d p) : ∃ (t f dn : Int) (s u : Value) (L : List Bool) (l : List Int), v = .agg #[.int .i64 t, s, .int .i64 f, u, .int .i64 dn] ∧ BosAt w s L ∧ (∀ a n c, s = .slice a n c → n ≤ c) ∧ IntsAt w u l := by
  obtain ⟨cs, rfl, hsz⟩ := okWide_struct Try.underlying30 hv
  obtain ⟨k, h⟩ := h
  obtain ⟨t, f, dn, s, u, L, l, e, h1, h2, h3⟩ := open_rc h
  refine ⟨t, f, dn, s, u, L, l, ?_, h1, h2, h3⟩
  congr 1
  exact Array.toList_inj.1 e
theorem open_od {n : Nat} {cs : List Value} {x : DataW H × List MemPlace} (h : DataW.trod enc Try.prog w base sp held n 32 cs = some x) : ∃ a b c e : Int, cs = [.int .i64 a, .int .i64 b, .int .i64 c, .int .i64 e] := by
  obtain ⟨m, ys, hl, h0, h1, h2, h3⟩ := trod_struct4 Try.underlying32 h
  rw [cells32] at hl
  match cs, hl with
  | [c0, c1, c2, c3], _ =>
    simp only [cells3, List.drop_zero, List.drop_succ_cons, List.take_succ_cons, List.take_zero] at h0 h1 h2 h3
    obtain ⟨a, e0, _⟩ := DataW.trod_int Try.underlying3 h0
    obtain ⟨b, e1, _⟩ := DataW.trod_int Try.underlying3 h1
    obtain ⟨c, e2, _⟩ := DataW.trod_int Try.underlying3 h2
    obtain ⟨e, e3, _⟩ := DataW.trod_int Try.underlying3 h3
    simp only [List.cons.injEq, and_true] at e0 e1 e2 e3
    exact ⟨a, b, c, e, by rw [e0, e1, e2, e3]⟩
theorem arg_od (hv : Value.okWide Try.prog w r b0 32 v) (h : DataW.Trod enc Try.prog w base sp held 32 v d p) : ∃ a b c e : Int, v = .agg #[.int .i64 a, .int .i64 b, .int .i64 c, .int .i64 e] := by
  obtain ⟨cs, rfl, hsz⟩ := okWide_struct Try.underlying32 hv
  obtain ⟨k, h⟩ := h
  obtain ⟨a, b, c, x, e⟩ := open_od h
  refine ⟨a, b, c, x, ?_⟩
  congr 1
  exact Array.toList_inj.1 e
theorem arg_int {t : TypeId} {k : IntKind} (ht : Try.prog.underlying t = some (.int k)) (hv : Value.okWide Try.prog w r b0 t v) (h : DataW.Trod enc Try.prog w base sp held t v d p) : ∃ x : Int, v = .int k x ∧ k.min ≤ x ∧ x ≤ k.max := by
  obtain ⟨x, rfl, -, -, hw⟩ := open_int ht hv h
  refine ⟨x, rfl, ?_⟩
  have : (decide (k.min ≤ x) && decide (x ≤ k.max)) = true := hw
  rw [Bool.and_eq_true, decide_eq_true_iff, decide_eq_true_iff] at this
  exact this
end
end Go.Proofs.Ytkamkkjijjkfdaa
