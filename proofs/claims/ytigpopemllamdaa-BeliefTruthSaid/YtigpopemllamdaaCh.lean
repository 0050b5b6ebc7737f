/- Beliefs: how lists of small numbers open. -/
import Derived.Test.YtigpopemllamdaaCa
namespace Go.Proofs.Ytigpopemllamdaa
open Go.RowKit Go.WideShapes Go.ChangeShapes Go.Joins Go.Deep

/-- A list of numbers of a kind lies behind a slice. -/
def KsAt (k : IntKind) (w : World) (v : Value) (l : List Int) : Prop :=
  ∃ a cap, v = .slice a l.length cap ∧ l.length ≤ maxLen ∧ (l ≠ [] → ∃ b off, a = some ⟨b, off, none⟩ ∧ ∀ (i : Nat) (x : Int), l[i]? = some x → w.cell? ⟨b, off + i, none⟩ = some (.int k x) ∧ k.min ≤ x ∧ x ≤ k.max)
theorem KsAt.step {k : IntKind} {w w1 : World} {v : Value} {l : List Int} (h : KsAt k w v l) (hb : Below w.heap.size w w1) : KsAt k w1 v l := by
  obtain ⟨a, cap, hv, hm, hc⟩ := h
  refine ⟨a, cap, hv, hm, fun hl => ?_⟩
  obtain ⟨b, off, ha, hx⟩ := hc hl
  exact ⟨b, off, ha, fun i x h => ⟨keep1 hb (hx i x h).1, (hx i x h).2⟩⟩
theorem cells45 : Try.prog.cellsOf 45 = 1 := by kernel_rfl
section
variable {H : Type} {enc : TypeId × Value → H} {w : World} {base : Nat} {sp : Nat → Bool} {held : Bool} {r : Reach} {b0 : Nat} {v : Value} {d : DataW H} {p : List MemPlace}
set_option maxRecDepth 100000 in
theorem open_ks {t e : TypeId} {kd : IntKind} (ht : Try.prog.underlying t = some (.slice e)) (he : Try.prog.underlying e = some (.int kd)) (hce : Try.prog.cellsOf e = 1) {n : Nat} {v : Value} {x : DataW H × List MemPlace} (h : DataW.trod enc Try.prog w base sp held n t [v] = some x) : ∃ l, KsAt kd w v l := by
  rcases Go.Deep.open_slice ht h with ⟨h0, _⟩ | ⟨a, len, cap, m, k, D, Pl, hv, _, hl, hm, hmm, _, hx⟩
  · simp only [List.cons.injEq, and_true] at h0
    exact ⟨[], ⟨none, 0, h0, by simp, fun h => absurd rfl h⟩⟩
  · simp only [List.cons.injEq, and_true] at hv
    rw [hce] at hx
    have hle : len ≤ m := by rw [hmm]; split <;> omega
    obtain ⟨f, hf⟩ := Go.Deep.choose_lt (α := Int) (p := fun i s => w.cells? base (a.add (i * 1)) 1 = some [.int kd s] ∧ kd.min ≤ s ∧ s ≤ kd.max) (n := len) (fun i hi => by
      obtain ⟨cs', h1, h2⟩ := hx i (by omega)
      obtain ⟨s, rfl, _, g⟩ := DataW.trod_int he h2
      have g4 : (decide (kd.min ≤ s) && decide (s ≤ kd.max)) = true := g
      rw [Bool.and_eq_true, decide_eq_true_iff, decide_eq_true_iff] at g4
      exact ⟨s, h1, g4⟩)
    refine ⟨(List.range len).map f, ⟨some a, cap, by rw [hv]; simp, by simp; omega, fun hne => ?_⟩⟩
    have hpos : 0 < len := by
      apply Classical.byContradiction; intro h0
      exact hne (by simp; omega)
    have hc := fun i hi => (World.cells?_some (hf i hi).1).2.2
    have h00 := hc 0 hpos 0 (by simp)
    rw [Go.Deep.add_add, Nat.zero_mul, Nat.add_zero] at h00
    obtain ⟨b, off, rfl⟩ := plain_of h00
    refine ⟨b, off, rfl, fun i x hi => ?_⟩
    obtain ⟨hlt, rfl⟩ := range_get f len i x hi
    have hj := fun j hj => hc i hlt j hj
    simp only [Go.WideShapes.add_plain, Nat.mul_one] at hj
    exact ⟨hj 0 (by simp), (hf i hlt).2⟩
set_option maxRecDepth 100000 in
theorem arg_u8s (hv : Value.okWide Try.prog w r b0 59 v) (h : DataW.Trod enc Try.prog w base sp held 59 v d p) : ∃ l, KsAt .u8 w v l := by
  obtain ⟨a, n, c, rfl⟩ := okWide_slice Try.underlying59 hv
  obtain ⟨k, h⟩ := h
  exact open_ks Try.underlying59 Try.underlying5 cells5 (v := .slice a n c) h
set_option maxRecDepth 100000 in
theorem arg_u16s (hv : Value.okWide Try.prog w r b0 42 v) (h : DataW.Trod enc Try.prog w base sp held 42 v d p) : ∃ l, KsAt .u16 w v l := by
  obtain ⟨a, n, c, rfl⟩ := okWide_slice Try.underlying42 hv
  obtain ⟨k, h⟩ := h
  exact open_ks Try.underlying42 Try.underlying45 cells45 (v := .slice a n c) h
end
end Go.Proofs.Ytigpopemllamdaa
