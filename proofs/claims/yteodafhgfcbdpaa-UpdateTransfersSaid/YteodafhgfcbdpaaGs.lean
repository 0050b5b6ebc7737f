import Derived.Test.YteodafhgfcbdpaaGn
import Derived.Test.YteodafhgfcbdpaaWb
namespace Go.Proofs.Yteodafhgfcbdpaa
open Go.RowKit Go.WideShapes Go.ChangeShapes Go.Joins Go.Deep

theorem cells5 : Try.prog.cellsOf 5 = 1 := by kernel_rfl
variable {H : Type} {enc : TypeId × Value → H} {w : World} {base : Nat} {sp : Nat → Bool} {held : Bool} {r : Reach} {b0 : Nat} {v : Value} {d : DataW H} {p : List MemPlace}
theorem open_bys {n : Nat} {v : Value} {x : DataW H × List MemPlace} (h : DataW.trod enc Try.prog w base sp held n 46 [v] = some x) : ∃ l, BysAt w v l ∧ IsBy l := by
  rcases Go.Deep.open_slice Try.underlying46 h with ⟨h0, _⟩ | ⟨a, len, cap, m, k, D, Pl, hv, _, hl, hm, hmm, _, hx⟩
  · simp only [List.cons.injEq, and_true] at h0
    exact ⟨[], ⟨none, 0, h0, by simp, by simp, fun h => absurd rfl h⟩, fun x hx => by cases hx⟩
  · simp only [List.cons.injEq, and_true] at hv
    rw [cells5] at hx
    have hle : len ≤ m := by rw [hmm]; split <;> omega
    obtain ⟨f, hf⟩ := Go.Deep.choose_lt (α := Int) (p := fun i s => w.cells? base (a.add (i * 1)) 1 = some [.int .u8 s] ∧ 0 ≤ s ∧ s ≤ 255) (n := len) (fun i hi => by
      obtain ⟨cs', h1, h2⟩ := hx i (by omega)
      obtain ⟨s, rfl, _, g⟩ := DataW.trod_int Try.underlying5 h2
      have g4 : (decide (IntKind.u8.min ≤ s) && decide (s ≤ IntKind.u8.max)) = true := g
      rw [Bool.and_eq_true, decide_eq_true_iff, decide_eq_true_iff] at g4
      exact ⟨s, h1, g4⟩)
    refine ⟨(List.range len).map f, ⟨some a, cap, by rw [hv]; simp, by simp; omega, by simp; omega, fun hne => ?_⟩, fun x hx => ?_⟩
    · have hpos : 0 < len := by
        apply Classical.byContradiction; intro h0
        exact hne (by simp; omega)
      have hc := fun i hi => (World.cells?_some (hf i hi).1).2.2
      have h00 := hc 0 hpos 0 (by omega)
      rw [Go.Deep.add_add, Nat.zero_mul, Nat.add_zero] at h00
      obtain ⟨b, off, rfl⟩ := plain_of h00
      refine ⟨b, off, rfl, fun i x hi => ?_⟩
      obtain ⟨hlt, rfl⟩ := range_get f len i x hi
      have hj := fun j hj => hc i hlt j hj
      simp only [Go.WideShapes.add_plain, Nat.mul_one] at hj
      exact hj 0 (by omega)
    · obtain ⟨i, hi, rfl⟩ := List.mem_map.1 hx
      exact (hf i (by simpa using hi)).2
theorem arg_u8s (hv : Value.okWide Try.prog w r b0 46 v) (h : DataW.Trod enc Try.prog w base sp held 46 v d p) : ∃ l, BysAt w v l ∧ IsBy l := by
  obtain ⟨a, n, c, rfl⟩ := okWide_slice Try.underlying46 hv
  obtain ⟨k, h⟩ := h
  exact open_bys (v := .slice a n c) h
end Go.Proofs.Yteodafhgfcbdpaa
