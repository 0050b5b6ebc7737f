import Derived.ChangeSame
import Derived.Deep.Strs
import Derived.RowKit
import Derived.Test.YtnanndmpbecdiaaLk
namespace Go.Proofs.Ytnanndmpbecdiaa
open Go.RowKit Go.WideShapes Go.ChangeShapes Go.Joins Go.Deep

theorem ownK : ownKnob Try.prog.godebug = none := by kernel_rfl
theorem laidO : laidOutB Try.prog = true := by kernel_rfl
theorem cells35 : Try.prog.cellsOf 35 = 6 := by kernel_rfl
theorem cells5 : Try.prog.cellsOf 5 = 1 := by kernel_rfl
theorem plain_of {w : World} {a : Addr} {v : Value} (h : w.cell? (a.add 0) = some v) : ∃ b off, a = ⟨b, off, none⟩ := by
  obtain ⟨b, off, spot⟩ := a
  have hspot : spot = none := by simpa [Addr.add] using World.cell?_spot h
  subst hspot
  exact ⟨b, off, rfl⟩
theorem range_get {α : Type} (f : Nat → α) (len i : Nat) (x : α) (h : ((List.range len).map f)[i]? = some x) : i < len ∧ x = f i := by
  rw [List.getElem?_map] at h
  by_cases hi : i < len
  · simp [hi] at h; exact ⟨hi, h.symm⟩
  · simp [hi] at h
/-- A turn. -/
structure Tn where
  d : Int
  h : Int
  a : Int
  t : Int
  l : Int
  w : Int
def zT : Tn := ⟨0, 0, 0, 0, 0, 0⟩
instance : Inhabited Tn := ⟨zT⟩
def u8k (x : Int) : Prop := 0 ≤ x ∧ x ≤ 255
def Tn.ok (x : Tn) : Prop := u8k x.d ∧ u8k x.h ∧ u8k x.a ∧ u8k x.t ∧ u8k x.l ∧ u8k x.w
def Tn.cells (x : Tn) : List Value := [.int .u8 x.d, .int .u8 x.h, .int .u8 x.a, .int .u8 x.t, .int .u8 x.l, .int .u8 x.w]
def TnsAt (w : World) (v : Value) (l : List Tn) : Prop :=
  ∃ a cap, v = .slice a l.length cap ∧ l.length ≤ maxLen ∧ (l ≠ [] → ∃ b off, a = some ⟨b, off, none⟩ ∧ ∀ (i : Nat) (x : Tn), l[i]? = some x → ∀ j u, x.cells[j]? = some u → w.cell? ⟨b, off + i * 6 + j, none⟩ = some u)
theorem TnsAt.step {w w1 : World} {v : Value} {l : List Tn} (h : TnsAt w v l) (hb : Below w.heap.size w w1) : TnsAt w1 v l := by
  obtain ⟨a, cap, hv, hm, hc⟩ := h
  refine ⟨a, cap, hv, hm, fun hl => ?_⟩
  obtain ⟨b, off, ha, hx⟩ := hc hl
  exact ⟨b, off, ha, fun i x h j u hj => keep1 hb (hx i x h j u hj)⟩
section
variable {H : Type} {enc : TypeId × Value → H} {w : World} {base : Nat} {sp : Nat → Bool} {held : Bool} {r : Reach} {b0 : Nat} {v : Value} {d : DataW H} {p : List MemPlace}
theorem fits_u8 {x : Int} (h : (decide (IntKind.u8.min ≤ x) && decide (x ≤ IntKind.u8.max)) = true) : u8k x := by
  rw [show IntKind.u8.min = 0 by decide, show IntKind.u8.max = 255 by decide, Bool.and_eq_true, decide_eq_true_iff, decide_eq_true_iff] at h; exact h
theorem open_tn {n : Nat} {cs : List Value} {x : DataW H × List MemPlace} (h : DataW.trod enc Try.prog w base sp held n 35 cs = some x) : ∃ s : Tn, cs = s.cells ∧ s.ok := by
  obtain ⟨xs, m, _, rfl, hl, hlen, hf⟩ := DataW.trod_struct Try.underlying35 h
  rw [cells35] at hl
  match cs, hl with
  | [c0, c1, c2, c3, c4, c5], _ =>
    match xs, hlen with
    | [y0, y1, y2, y3, y4, y5], _ =>
      have h0 := by simpa using hf 0 _ rfl
      have h1 := by simpa using hf 1 _ rfl
      have h2 := by simpa using hf 2 _ rfl
      have h3 := by simpa using hf 3 _ rfl
      have h4 := by simpa using hf 4 _ rfl
      have h5 := by simpa using hf 5 _ rfl
      simp only [cells5, List.take_succ_cons, List.take_zero] at h0 h1 h2 h3 h4 h5
      obtain ⟨s0, e0, _, g0⟩ := DataW.trod_int Try.underlying5 h0
      obtain ⟨s1, e1, _, g1⟩ := DataW.trod_int Try.underlying5 h1
      obtain ⟨s2, e2, _, g2⟩ := DataW.trod_int Try.underlying5 h2
      obtain ⟨s3, e3, _, g3⟩ := DataW.trod_int Try.underlying5 h3
      obtain ⟨s4, e4, _, g4⟩ := DataW.trod_int Try.underlying5 h4
      obtain ⟨s5, e5, _, g5⟩ := DataW.trod_int Try.underlying5 h5
      simp only [List.cons.injEq, and_true] at e0 e1 e2 e3 e4 e5
      exact ⟨⟨s0, s1, s2, s3, s4, s5⟩, by rw [e0, e1, e2, e3, e4, e5]; rfl, fits_u8 g0, fits_u8 g1, fits_u8 g2, fits_u8 g3, fits_u8 g4, fits_u8 g5⟩
theorem open_tns {n : Nat} {v : Value} {x : DataW H × List MemPlace} (h : DataW.trod enc Try.prog w base sp held n 22 [v] = some x) : ∃ l, TnsAt w v l ∧ ∀ x ∈ l, x.ok := by
  rcases Go.Deep.open_slice Try.underlying22 h with ⟨h0, _⟩ | ⟨a, len, cap, m, k, D, Pl, hv, _, hl, hm, hmm, _, hx⟩
  · simp only [List.cons.injEq, and_true] at h0
    exact ⟨[], ⟨⟨none, 0, h0, by simp, fun h => absurd rfl h⟩, by simp⟩⟩
  · simp only [List.cons.injEq, and_true] at hv
    rw [cells35] at hx
    have hle : len ≤ m := by rw [hmm]; split <;> omega
    obtain ⟨f, hf⟩ := Go.Deep.choose_lt (α := Tn) (p := fun i s => w.cells? base (a.add (i * 6)) 6 = some s.cells ∧ s.ok) (n := len) (fun i hi => by
      obtain ⟨cs', h1, h2⟩ := hx i (by omega)
      obtain ⟨s, rfl, hk⟩ := open_tn h2
      exact ⟨s, h1, hk⟩)
    refine ⟨(List.range len).map f, ⟨⟨some a, cap, by rw [hv]; simp, by simp; omega, fun hne => ?_⟩ , fun x hm => by
      obtain ⟨i, hi, rfl⟩ := List.mem_map.1 hm
      exact (hf i (List.mem_range.1 hi)).2⟩⟩
    have hpos : 0 < len := by
      apply Classical.byContradiction; intro h0
      exact hne (by simp; omega)
    have hc := fun i hi => (World.cells?_some (hf i hi).1).2.2
    have h00 := hc 0 hpos 0 (by omega)
    rw [Go.Deep.add_add, Nat.zero_mul, Nat.add_zero] at h00
    obtain ⟨b, off, rfl⟩ := plain_of h00
    refine ⟨b, off, rfl, fun i x hi j u hj => ?_⟩
    obtain ⟨hlt, rfl⟩ := range_get f len i x hi
    have hj6 : j < 6 := by
      have := (List.getElem?_eq_some_iff.1 hj).1
      simpa [Tn.cells] using this
    have hq := hc i hlt j hj6
    simp only [Go.WideShapes.add_plain] at hq
    rw [hq]
    exact hj
theorem arg_tns (hv : Value.okWide Try.prog w r b0 22 v) (h : DataW.Trod enc Try.prog w base sp held 22 v d p) : ∃ l, TnsAt w v l ∧ ∀ x ∈ l, x.ok := by
  obtain ⟨a, n, c, rfl⟩ := okWide_slice Try.underlying22 hv
  obtain ⟨k, h⟩ := h
  exact open_tns (v := .slice a n c) h
end
end Go.Proofs.Ytnanndmpbecdiaa
