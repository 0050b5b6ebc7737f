/- How a law's arguments open. -/
import Derived.Test.YtloilkfloidnjaaA
import Derived.Test.YtloilkfloidnjaaRows
import Derived.ProofKit
namespace Go.Proofs.Ytloilkfloidnjaa
open Go.RowKit Go.WideShapes Go.ChangeShapes Go.Joins

theorem ownK : ownKnob Try.prog.godebug = none := by kernel_rfl
theorem laidO : laidOutB Try.prog = true := by kernel_rfl
section
variable {H : Type} {enc : TypeId × Value → H} {w : World} {base : Nat} {sp : Nat → Bool} {held : Bool} {r : Reach} {b0 : Nat} {v : Value} {d : DataW H} {p : List MemPlace}
theorem arg_scns (hv : Value.okWide Try.prog w r b0 22 v) (h : DataW.Trod enc Try.prog w base sp held 22 v d p) : ∃ l, ScnsAt w v l ∧ ∀ x ∈ l, x.ok := by
  obtain ⟨a, n, c, rfl⟩ := okWide_slice Try.underlying22 hv
  obtain ⟨k, h⟩ := h
  exact open_scns (v := .slice a n c) h
theorem arg_names (hv : Value.okWide Try.prog w r b0 23 v) (h : DataW.Trod enc Try.prog w base sp held 23 v d p) : ∃ l, NamesAt w v l ∧ ∀ x ∈ l, x.size ≤ maxLen := by
  obtain ⟨a, n, c, rfl⟩ := okWide_slice Try.underlying23 hv
  obtain ⟨k, h⟩ := h
  exact open_names (v := .slice a n c) h
theorem arg_ref (hv : Value.okWide Try.prog w r b0 25 v) (h : DataW.Trod enc Try.prog w base sp held 25 v d p) : ∃ x y : ByteArray, v = .agg #[.string x, .string y] ∧ x.size ≤ maxLen ∧ y.size ≤ maxLen := by
  obtain ⟨cs, rfl, hsz⟩ := okWide_struct Try.underlying25 hv
  obtain ⟨k, h⟩ := h
  obtain ⟨x, y, e, h1, h2⟩ := open_ref h
  refine ⟨x, y, ?_, h1, h2⟩
  congr 1
  exact Array.toList_inj.1 e
theorem arg_scn (hv : Value.okWide Try.prog w r b0 44 v) (h : DataW.Trod enc Try.prog w base sp held 44 v d p) : ∃ (s : Scn) (sv : Value), v = .agg #[.string s.name, .int .i64 s.layer, sv] ∧ SettsAt w sv s.sets ∧ s.ok := by
  obtain ⟨cs, rfl, hsz⟩ := okWide_struct Try.underlying44 hv
  obtain ⟨k, h⟩ := h
  obtain ⟨x, y, e, h1, h2⟩ := open_scn h
  refine ⟨x, y, ?_, h1, h2⟩
  congr 1
  exact Array.toList_inj.1 e
theorem arg_u8 (hv : Value.okWide Try.prog w r b0 5 v) (h : DataW.Trod enc Try.prog w base sp held 5 v d p) : ∃ x : Int, v = .int .u8 x ∧ 0 ≤ x ∧ x ≤ 255 := by
  obtain ⟨x, rfl, -, -, hw⟩ := open_int Try.underlying5 hv h
  refine ⟨x, rfl, ?_⟩
  have h1 : IntKind.u8.min = 0 := by decide
  have h2 : IntKind.u8.max = 255 := by decide
  have : (decide (IntKind.u8.min ≤ x) && decide (x ≤ IntKind.u8.max)) = true := hw
  rw [h1, h2, Bool.and_eq_true, decide_eq_true_iff, decide_eq_true_iff] at this
  exact this
end
end Go.Proofs.Ytloilkfloidnjaa
