/- Scenes, settings and names in memory; how an argument opens to them. -/
import Derived.Test.YtloilkfloidnjaaRows
import Derived.ProofKit
import Derived.OpenShut
import Derived.Lib.SmallJoins
import Derived.Deep.Strs
import Derived.Deep.Slices
import Derived.ChangeSame
import Derived.WalkKit
import Derived.Lib.Hide
namespace Go.Proofs.Ytloilkfloidnjaa
open Go.RowKit Go.WideShapes Go.ChangeShapes Go.Deep

/-- A setting, a scene. -/
structure Sett where
  dev : ByteArray
  attr : ByteArray
  name : ByteArray
  ten : Int
  unit : ByteArray
structure Scn where
  name : ByteArray
  layer : Int
  sets : List Sett
instance : Inhabited Sett := ⟨⟨⟨#[]⟩, ⟨#[]⟩, ⟨#[]⟩, 0, ⟨#[]⟩⟩⟩
instance : Inhabited Scn := ⟨⟨⟨#[]⟩, 0, []⟩⟩
/-- The texts of a setting's attribute are no longer than a text can be. -/
def Sett.ok (x : Sett) : Prop := x.dev.size ≤ maxLen ∧ x.attr.size ≤ maxLen
def Scn.ok (x : Scn) : Prop := x.name.size ≤ maxLen ∧ ∀ y ∈ x.sets, y.ok
def Sett.cells (x : Sett) : List Value := [.string x.dev, .string x.attr, .string x.name, .int .i64 x.ten, .string x.unit]

/-- A list of settings lies behind a slice. -/
def SettsAt (w : World) (v : Value) (l : List Sett) : Prop :=
  ∃ a cap, v = .slice a l.length cap ∧ l.length ≤ maxLen ∧ (l ≠ [] → ∃ b off, a = some ⟨b, off, none⟩ ∧ ∀ (i : Nat) (x : Sett), l[i]? = some x →
    w.cell? ⟨b, off + i * 5, none⟩ = some (.string x.dev) ∧ w.cell? ⟨b, off + i * 5 + 1, none⟩ = some (.string x.attr) ∧ w.cell? ⟨b, off + i * 5 + 2, none⟩ = some (.string x.name) ∧ w.cell? ⟨b, off + i * 5 + 3, none⟩ = some (.int .i64 x.ten) ∧ w.cell? ⟨b, off + i * 5 + 4, none⟩ = some (.string x.unit))
def ScnsAt (w : World) (v : Value) (l : List Scn) : Prop :=
  ∃ a cap, v = .slice a l.length cap ∧ l.length ≤ maxLen ∧ (l ≠ [] → ∃ b off, a = some ⟨b, off, none⟩ ∧ ∀ (i : Nat) (x : Scn), l[i]? = some x →
    w.cell? ⟨b, off + i * 3, none⟩ = some (.string x.name) ∧ w.cell? ⟨b, off + i * 3 + 1, none⟩ = some (.int .i64 x.layer) ∧ ∃ sv, w.cell? ⟨b, off + i * 3 + 2, none⟩ = some sv ∧ SettsAt w sv x.sets)
def NamesAt (w : World) (v : Value) (l : List ByteArray) : Prop :=
  ∃ a cap, v = .slice a l.length cap ∧ l.length ≤ maxLen ∧ (l ≠ [] → ∃ b off, a = some ⟨b, off, none⟩ ∧ ∀ (i : Nat) (x : ByteArray), l[i]? = some x → w.cell? ⟨b, off + i, none⟩ = some (.string x))

theorem keep1 {w w1 : World} {p : Addr} {v : Value} (hb : Below w.heap.size w w1) (h : w.cell? p = some v) : w1.cell? p = some v := (hb.cell (World.block_lt_of_cell? _ _ h)).trans h
theorem keep2 {w w1 w2 : World} (hb : Below w1.heap.size w1 w2) (h : Below w.heap.size w w1) : Below w.heap.size w w2 := h.trans (hb.mono h.size)
theorem SettsAt.step {w w1 : World} {v : Value} {l : List Sett} (h : SettsAt w v l) (hb : Below w.heap.size w w1) : SettsAt w1 v l := by
  obtain ⟨a, cap, hv, hm, hc⟩ := h
  refine ⟨a, cap, hv, hm, fun hl => ?_⟩
  obtain ⟨b, off, ha, hx⟩ := hc hl
  refine ⟨b, off, ha, fun i x h => ?_⟩
  obtain ⟨h0, h1, h2, h3, h4⟩ := hx i x h
  exact ⟨keep1 hb h0, keep1 hb h1, keep1 hb h2, keep1 hb h3, keep1 hb h4⟩
theorem ScnsAt.step {w w1 : World} {v : Value} {l : List Scn} (h : ScnsAt w v l) (hb : Below w.heap.size w w1) : ScnsAt w1 v l := by
  obtain ⟨a, cap, hv, hm, hc⟩ := h
  refine ⟨a, cap, hv, hm, fun hl => ?_⟩
  obtain ⟨b, off, ha, hx⟩ := hc hl
  refine ⟨b, off, ha, fun i x h => ?_⟩
  obtain ⟨h0, h1, sv, h2, h3⟩ := hx i x h
  exact ⟨keep1 hb h0, keep1 hb h1, sv, keep1 hb h2, h3.step hb⟩
theorem NamesAt.step {w w1 : World} {v : Value} {l : List ByteArray} (h : NamesAt w v l) (hb : Below w.heap.size w w1) : NamesAt w1 v l := by
  obtain ⟨a, cap, hv, hm, hc⟩ := h
  refine ⟨a, cap, hv, hm, fun hl => ?_⟩
  obtain ⟨b, off, ha, hx⟩ := hc hl
  exact ⟨b, off, ha, fun i x h => keep1 hb (hx i x h)⟩

theorem cells40 : Try.prog.cellsOf 40 = 5 := by kernel_rfl
theorem cells44 : Try.prog.cellsOf 44 = 3 := by kernel_rfl
theorem cells25 : Try.prog.cellsOf 25 = 2 := by kernel_rfl
theorem cells38 : Try.prog.cellsOf 38 = 3 := by kernel_rfl
theorem cells36 : Try.prog.cellsOf 36 = 2 := by kernel_rfl
theorem cells9 : Try.prog.cellsOf 9 = 1 := by kernel_rfl
theorem cells3 : Try.prog.cellsOf 3 = 1 := by kernel_rfl
theorem cells28 : Try.prog.cellsOf 28 = 1 := by kernel_rfl

section
variable {H : Type} {enc : TypeId × Value → H} {w : World} {base : Nat} {sp : Nat → Bool} {held : Bool}
theorem open_ref {n : Nat} {cs : List Value} {x : DataW H × List MemPlace} (h : DataW.trod enc Try.prog w base sp held n 25 cs = some x) :
    ∃ d a : ByteArray, cs = [.string d, .string a] ∧ d.size ≤ maxLen ∧ a.size ≤ maxLen := by
  obtain ⟨y0, y1, m, _, hl, h0, h1⟩ := trod_struct2 Try.underlying25 h
  rw [cells25] at hl
  match cs, hl with
  | [c0, c1], _ =>
    simp only [cells9, List.drop_zero, List.drop_succ_cons, List.take_succ_cons, List.take_zero] at h0 h1
    obtain ⟨s0, e0, _, z0⟩ := DataW.trod_string Try.underlying9 h0
    obtain ⟨s1, e1, _, z1⟩ := DataW.trod_string Try.underlying9 h1
    simp only [List.cons.injEq, and_true] at e0 e1
    exact ⟨s0, s1, by rw [e0, e1], z0, z1⟩
theorem open_quantity {n : Nat} {cs : List Value} {x : DataW H × List MemPlace} (h : DataW.trod enc Try.prog w base sp held n 36 cs = some x) :
    ∃ (t : Int) (u : ByteArray), cs = [.int .i64 t, .string u] := by
  obtain ⟨y0, y1, m, _, hl, h0, h1⟩ := trod_struct2 Try.underlying36 h
  rw [cells36] at hl
  match cs, hl with
  | [c0, c1], _ =>
    simp only [cells9, cells3, List.drop_zero, List.drop_succ_cons, List.take_succ_cons, List.take_zero] at h0 h1
    obtain ⟨s0, e0, _, _⟩ := DataW.trod_int Try.underlying3 h0
    obtain ⟨s1, e1, _, _⟩ := DataW.trod_string Try.underlying9 h1
    simp only [List.cons.injEq, and_true] at e0 e1
    exact ⟨s0, s1, by rw [e0, e1]⟩
theorem open_literal {n : Nat} {cs : List Value} {x : DataW H × List MemPlace} (h : DataW.trod enc Try.prog w base sp held n 38 cs = some x) :
    ∃ (s : ByteArray) (t : Int) (u : ByteArray), cs = [.string s, .int .i64 t, .string u] := by
  obtain ⟨y0, y1, m, _, hl, h0, h1⟩ := trod_struct2 Try.underlying38 h
  rw [cells38] at hl
  match cs, hl with
  | [c0, c1, c2], _ =>
    simp only [cells9, cells36, List.drop_zero, List.drop_succ_cons, List.take_succ_cons, List.take_zero] at h0 h1
    obtain ⟨s0, e0, _, _⟩ := DataW.trod_string Try.underlying9 h0
    obtain ⟨t, u, e1⟩ := open_quantity h1
    simp only [List.cons.injEq, and_true] at e0 e1
    exact ⟨s0, t, u, by rw [e0, e1.1, e1.2]⟩
theorem open_sett {n : Nat} {cs : List Value} {x : DataW H × List MemPlace} (h : DataW.trod enc Try.prog w base sp held n 40 cs = some x) : ∃ s : Sett, cs = s.cells ∧ s.ok := by
  obtain ⟨y0, y1, m, _, hl, h0, h1⟩ := trod_struct2 Try.underlying40 h
  rw [cells40] at hl
  match cs, hl with
  | [c0, c1, c2, c3, c4], _ =>
    simp only [cells25, cells38, List.drop_zero, List.drop_succ_cons, List.take_succ_cons, List.take_zero] at h0 h1
    obtain ⟨d, a, e0, z0, z1⟩ := open_ref h0
    obtain ⟨s, t, u, e1⟩ := open_literal h1
    simp only [List.cons.injEq, and_true] at e0 e1
    exact ⟨⟨d, a, s, t, u⟩, by rw [e0.1, e0.2, e1.1, e1.2.1, e1.2.2]; rfl, z0, z1⟩
theorem plain_of {a : Addr} {v : Value} (h : w.cell? (a.add 0) = some v) : ∃ b off, a = ⟨b, off, none⟩ := by
  obtain ⟨b, off, spot⟩ := a
  have hspot : spot = none := by simpa [Addr.add] using World.cell?_spot h
  subst hspot
  exact ⟨b, off, rfl⟩
theorem range_get {α : Type} (f : Nat → α) (len i : Nat) (x : α) (h : ((List.range len).map f)[i]? = some x) : i < len ∧ x = f i := by
  rw [List.getElem?_map] at h
  by_cases hi : i < len
  · simp [hi] at h; exact ⟨hi, h.symm⟩
  · simp [hi] at h
theorem open_setts {n : Nat} {v : Value} {x : DataW H × List MemPlace} (h : DataW.trod enc Try.prog w base sp held n 28 [v] = some x) : ∃ l, SettsAt w v l ∧ ∀ x ∈ l, x.ok := by
  rcases Go.Deep.open_slice Try.underlying28 h with ⟨h0, _⟩ | ⟨a, len, cap, m, k, D, Pl, hv, _, hl, hm, hmm, _, hx⟩
  · simp only [List.cons.injEq, and_true] at h0
    exact ⟨[], ⟨none, 0, h0, by simp, fun h => absurd rfl h⟩, by simp⟩
  · simp only [List.cons.injEq, and_true] at hv
    rw [cells40] at hx
    have hle : len ≤ m := by rw [hmm]; split <;> omega
    obtain ⟨f, hf⟩ := Go.Deep.choose_lt (α := Sett) (p := fun i s => w.cells? base (a.add (i * 5)) 5 = some s.cells ∧ s.ok) (n := len) (fun i hi => by
      obtain ⟨cs', h1, h2⟩ := hx i (by omega)
      obtain ⟨s, rfl, hk⟩ := open_sett h2
      exact ⟨s, h1, hk⟩)
    refine ⟨(List.range len).map f, ⟨some a, cap, by rw [hv]; simp, by simp; omega, fun hne => ?_⟩, fun x hm => by
      obtain ⟨i, hi, rfl⟩ := List.mem_map.1 hm
      exact (hf i (List.mem_range.1 hi)).2⟩
    have hpos : 0 < len := by
      apply Classical.byContradiction; intro h0
      exact hne (by simp; omega)
    have hc := fun i hi => (World.cells?_some (hf i hi).1).2.2
    have h00 := hc 0 hpos 0 (by omega)
    rw [Go.Deep.add_add, Nat.zero_mul, Nat.add_zero] at h00
    obtain ⟨b, off, rfl⟩ := plain_of h00
    refine ⟨b, off, rfl, fun i x hi => ?_⟩
    obtain ⟨hlt, rfl⟩ := range_get f len i x hi
    have hj := fun j hj => hc i hlt j hj
    simp only [Go.WideShapes.add_plain] at hj
    exact ⟨hj 0 (by omega), hj 1 (by omega), hj 2 (by omega), hj 3 (by omega), hj 4 (by omega)⟩
theorem open_names {n : Nat} {v : Value} {x : DataW H × List MemPlace} (h : DataW.trod enc Try.prog w base sp held n 23 [v] = some x) : ∃ l, NamesAt w v l ∧ ∀ x ∈ l, x.size ≤ maxLen := by
  rcases Go.Deep.open_slice Try.underlying23 h with ⟨h0, _⟩ | ⟨a, len, cap, m, k, D, Pl, hv, _, hl, hm, hmm, _, hx⟩
  · simp only [List.cons.injEq, and_true] at h0
    exact ⟨[], ⟨none, 0, h0, by simp, fun h => absurd rfl h⟩, by simp⟩
  · simp only [List.cons.injEq, and_true] at hv
    rw [cells9] at hx
    have hle : len ≤ m := by rw [hmm]; split <;> omega
    obtain ⟨f, hf⟩ := Go.Deep.choose_lt (α := ByteArray) (p := fun i s => w.cells? base (a.add (i * 1)) 1 = some [.string s] ∧ s.size ≤ maxLen) (n := len) (fun i hi => by
      obtain ⟨cs', h1, h2⟩ := hx i (by omega)
      obtain ⟨s, rfl, _, hk⟩ := DataW.trod_string Try.underlying9 h2
      exact ⟨s, h1, hk⟩)
    refine ⟨(List.range len).map f, ⟨some a, cap, by rw [hv]; simp, by simp; omega, fun hne => ?_⟩, fun x hm => by
      obtain ⟨i, hi, rfl⟩ := List.mem_map.1 hm
      exact (hf i (List.mem_range.1 hi)).2⟩
    have hpos : 0 < len := by
      apply Classical.byContradiction; intro h0
      exact hne (by simp; omega)
    have hc := fun i hi => (World.cells?_some (hf i hi).1).2.2
    have h00 := hc 0 hpos 0 (by omega)
    rw [Go.Deep.add_add, Nat.zero_mul, Nat.add_zero] at h00
    obtain ⟨b, off, rfl⟩ := plain_of h00
    refine ⟨b, off, rfl, fun i x hi => ?_⟩
    obtain ⟨hlt, rfl⟩ := range_get f len i x hi
    have hj := hc i hlt 0 (by omega)
    simp only [Go.WideShapes.add_plain, Nat.mul_one, Nat.add_zero] at hj
    exact hj
theorem open_scn {n : Nat} {cs : List Value} {x : DataW H × List MemPlace} (h : DataW.trod enc Try.prog w base sp held n 44 cs = some x) :
    ∃ (s : Scn) (sv : Value), cs = [.string s.name, .int .i64 s.layer, sv] ∧ SettsAt w sv s.sets ∧ s.ok := by
  obtain ⟨y0, y1, y2, m, _, hl, h0, h1, h2⟩ := Go.Deep.trod_struct3 Try.underlying44 h
  rw [cells44] at hl
  match cs, hl with
  | [c0, c1, c2], _ =>
    simp only [cells9, cells3, cells28, List.drop_zero, List.drop_succ_cons, List.take_succ_cons, List.take_zero] at h0 h1 h2
    obtain ⟨s, e0, _, z0⟩ := DataW.trod_string Try.underlying9 h0
    obtain ⟨d, e1, _, _⟩ := DataW.trod_int Try.underlying3 h1
    obtain ⟨l, hs, z1⟩ := open_setts h2
    simp only [List.cons.injEq, and_true] at e0 e1
    exact ⟨⟨s, d, l⟩, c2, by rw [e0, e1], hs, z0, z1⟩
theorem open_scns {n : Nat} {v : Value} {x : DataW H × List MemPlace} (h : DataW.trod enc Try.prog w base sp held n 22 [v] = some x) : ∃ l, ScnsAt w v l ∧ ∀ x ∈ l, x.ok := by
  rcases Go.Deep.open_slice Try.underlying22 h with ⟨h0, _⟩ | ⟨a, len, cap, m, k, D, Pl, hv, _, hl, hm, hmm, _, hx⟩
  · simp only [List.cons.injEq, and_true] at h0
    exact ⟨[], ⟨none, 0, h0, by simp, fun h => absurd rfl h⟩, by simp⟩
  · simp only [List.cons.injEq, and_true] at hv
    rw [cells44] at hx
    have hle : len ≤ m := by rw [hmm]; split <;> omega
    obtain ⟨f, hf⟩ := Go.Deep.choose_lt (α := Scn) (p := fun i s => (∃ sv, w.cells? base (a.add (i * 3)) 3 = some [.string s.name, .int .i64 s.layer, sv] ∧ SettsAt w sv s.sets) ∧ s.ok) (n := len) (fun i hi => by
      obtain ⟨cs', h1, h2⟩ := hx i (by omega)
      obtain ⟨s, sv, rfl, hs, hk⟩ := open_scn h2
      exact ⟨s, ⟨sv, h1, hs⟩, hk⟩)
    refine ⟨(List.range len).map f, ⟨some a, cap, by rw [hv]; simp, by simp; omega, fun hne => ?_⟩, fun x hm => by
      obtain ⟨i, hi, rfl⟩ := List.mem_map.1 hm
      exact (hf i (List.mem_range.1 hi)).2⟩
    have hpos : 0 < len := by
      apply Classical.byContradiction; intro h0
      exact hne (by simp; omega)
    obtain ⟨⟨sv0, hc0, _⟩, _⟩ := hf 0 hpos
    have h00 := (World.cells?_some hc0).2.2 0 (by omega)
    rw [Go.Deep.add_add, Nat.zero_mul, Nat.add_zero] at h00
    obtain ⟨b, off, rfl⟩ := plain_of h00
    refine ⟨b, off, rfl, fun i x hi => ?_⟩
    obtain ⟨hlt, rfl⟩ := range_get f len i x hi
    obtain ⟨⟨sv, hc, hs⟩, _⟩ := hf i hlt
    have hj := (World.cells?_some hc).2.2
    simp only [Go.WideShapes.add_plain] at hj
    exact ⟨hj 0 (by omega), hj 1 (by omega), sv, hj 2 (by omega), hs⟩
end
end Go.Proofs.Ytloilkfloidnjaa
