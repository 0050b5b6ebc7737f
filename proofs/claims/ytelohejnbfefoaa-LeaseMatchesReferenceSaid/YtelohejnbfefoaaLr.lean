/- Leases: how a law's arguments open. -/
import Derived.Test.YtelohejnbfefoaaLi
import Derived.ChangeSame
import Derived.Deep.Strs
import Derived.RowKit
namespace Go.Proofs.Ytelohejnbfefoaa
open Go.RowKit Go.WideShapes Go.ChangeShapes Go.Joins Go.Deep

theorem ownK : ownKnob Try.prog.godebug = none := by kernel_rfl
theorem laidO : laidOutB Try.prog = true := by kernel_rfl
theorem cells25 : Try.prog.cellsOf 25 = 3 := by kernel_rfl
theorem cells27 : Try.prog.cellsOf 27 = 3 := by kernel_rfl
theorem cells52 : Try.prog.cellsOf 52 = 4 := by kernel_rfl
theorem cellsI : Try.prog.cellsOf 3 = 1 := by kernel_rfl
theorem cellsB : Try.prog.cellsOf 4 = 1 := by kernel_rfl
theorem cells5 : Try.prog.cellsOf 5 = 1 := by kernel_rfl
theorem cells49 : Try.prog.cellsOf 49 = 1 := by kernel_rfl
theorem plain_of {w : World} {a : Addr} {v : Value} (h : w.cell? (a.add 0) = some v) : ∃ b off, a = ⟨b, off, none⟩ := by
  obtain ⟨b, off, spot⟩ := a
  have hspot : spot = none := by simpa [Addr.add] using World.cell?_spot h
  subst hspot
  exact ⟨b, off, rfl⟩
theorem range_get {α : Type} (f : Nat → α) (len i : Nat) (x : α) (h : ((List.range len).map f)[i]? = some x) : i < len ∧ x = f i := by
  rw [List.getElem?_map] at h
  by_cases hi : i < len
  · simp [hi] at h; exact ⟨hi, h.symm⟩
  · simp [hi] at h
/-- An attempt. -/
structure Tr where
  hub : Int
  ans : Int
  aft : Int
  len : Int
def zT : Tr := ⟨0, 0, 0, 0⟩
instance : Inhabited Tr := ⟨zT⟩
def Tr.ok (x : Tr) : Prop := (0 ≤ x.hub ∧ x.hub ≤ 255) ∧ (0 ≤ x.ans ∧ x.ans ≤ 255) ∧ (0 ≤ x.aft ∧ x.aft ≤ 65535) ∧ (0 ≤ x.len ∧ x.len ≤ 65535)
def TrsAt (w : World) (v : Value) (l : List Tr) : Prop :=
  ∃ a cap, v = .slice a l.length cap ∧ l.length ≤ maxLen ∧ (l ≠ [] → ∃ b off, a = some ⟨b, off, none⟩ ∧ ∀ (i : Nat) (x : Tr), l[i]? = some x →
    w.cell? ⟨b, off + i * 4, none⟩ = some (.int .u8 x.hub) ∧ w.cell? ⟨b, off + i * 4 + 1, none⟩ = some (.int .u8 x.ans) ∧ w.cell? ⟨b, off + i * 4 + 2, none⟩ = some (.int .u16 x.aft) ∧ w.cell? ⟨b, off + i * 4 + 3, none⟩ = some (.int .u16 x.len))
theorem TrsAt.step {w w1 : World} {v : Value} {l : List Tr} (h : TrsAt w v l) (hb : Below w.heap.size w w1) : TrsAt w1 v l := by
  obtain ⟨a, cap, hv, hm, hc⟩ := h
  refine ⟨a, cap, hv, hm, fun hl => ?_⟩
  obtain ⟨b, off, ha, hx⟩ := hc hl
  exact ⟨b, off, ha, fun i x h => ⟨keep1 hb (hx i x h).1, keep1 hb (hx i x h).2.1, keep1 hb (hx i x h).2.2.1, keep1 hb (hx i x h).2.2.2⟩⟩
section
variable {H : Type} {enc : TypeId × Value → H} {w : World} {base : Nat} {sp : Nat → Bool} {held : Bool} {r : Reach} {b0 : Nat} {v : Value} {d : DataW H} {p : List MemPlace}
theorem open_vo {n : Nat} {cs : List Value} {x : DataW H × List MemPlace} (h : DataW.trod enc Try.prog w base sp held n 25 cs = some x) : ∃ s : Vo, cs = s.cells := by
  obtain ⟨y0, y1, y2, m, _, hl, h0, h1, h2⟩ := trod_struct3 Try.underlying25 h
  rw [cells25] at hl
  match cs, hl with
  | [c0, c1, c2], _ =>
    simp only [cellsI, List.drop_zero, List.drop_succ_cons, List.take_succ_cons, List.take_zero] at h0 h1 h2
    obtain ⟨s0, e0, _⟩ := DataW.trod_int Try.underlying3 h0
    obtain ⟨s1, e1, _⟩ := DataW.trod_int Try.underlying3 h1
    obtain ⟨s2, e2, _⟩ := DataW.trod_int Try.underlying3 h2
    simp only [List.cons.injEq, and_true] at e0 e1 e2
    exact ⟨⟨s0, s1, s2⟩, by rw [e0, e1, e2]; rfl⟩
theorem open_ls {n : Nat} {cs : List Value} {x : DataW H × List MemPlace} (h : DataW.trod enc Try.prog w base sp held n 27 cs = some x) : ∃ a b c : Int, cs = [.int .i64 a, .int .i64 b, .int .i64 c] := by
  obtain ⟨y0, y1, y2, m, _, hl, h0, h1, h2⟩ := trod_struct3 Try.underlying27 h
  rw [cells27] at hl
  match cs, hl with
  | [c0, c1, c2], _ =>
    simp only [cellsI, List.drop_zero, List.drop_succ_cons, List.take_succ_cons, List.take_zero] at h0 h1 h2
    obtain ⟨s0, e0, _⟩ := DataW.trod_int Try.underlying3 h0
    obtain ⟨s1, e1, _⟩ := DataW.trod_int Try.underlying3 h1
    obtain ⟨s2, e2, _⟩ := DataW.trod_int Try.underlying3 h2
    simp only [List.cons.injEq, and_true] at e0 e1 e2
    exact ⟨s0, s1, s2, by rw [e0, e1, e2]⟩
theorem fits_u8 {x : Int} (h : (decide (IntKind.u8.min ≤ x) && decide (x ≤ IntKind.u8.max)) = true) : 0 ≤ x ∧ x ≤ 255 := by
  rw [show IntKind.u8.min = 0 by decide, show IntKind.u8.max = 255 by decide, Bool.and_eq_true, decide_eq_true_iff, decide_eq_true_iff] at h; exact h
theorem fits_u16 {x : Int} (h : (decide (IntKind.u16.min ≤ x) && decide (x ≤ IntKind.u16.max)) = true) : 0 ≤ x ∧ x ≤ 65535 := by
  rw [show IntKind.u16.min = 0 by decide, show IntKind.u16.max = 65535 by decide, Bool.and_eq_true, decide_eq_true_iff, decide_eq_true_iff] at h; exact h
theorem trod_struct4 {P : Program} {t : TypeId} {f0 f1 f2 f3 : Field} {fuel : Nat} {cs : List Value} {x : DataW H × List MemPlace} (ht : P.underlying t = some (.struct #[f0, f1, f2, f3])) (h : DataW.trod enc P w base sp held fuel t cs = some x) :
    ∃ (n : Nat) (ys : Nat → DataW H × List MemPlace), cs.length = P.cellsOf t ∧
      DataW.trod enc P w base sp held n f0.type ((cs.drop f0.offset).take (P.cellsOf f0.type)) = some (ys 0) ∧
      DataW.trod enc P w base sp held n f1.type ((cs.drop f1.offset).take (P.cellsOf f1.type)) = some (ys 1) ∧
      DataW.trod enc P w base sp held n f2.type ((cs.drop f2.offset).take (P.cellsOf f2.type)) = some (ys 2) ∧
      DataW.trod enc P w base sp held n f3.type ((cs.drop f3.offset).take (P.cellsOf f3.type)) = some (ys 3) := by
  obtain ⟨xs, n, _, rfl, hl, hlen, hf⟩ := DataW.trod_struct ht h
  match xs, hlen with
  | [y0, y1, y2, y3], _ =>
    refine ⟨n, fun i => match i with | 0 => y0 | 1 => y1 | 2 => y2 | _ => y3, hl, by simpa using hf 0 f0 rfl, by simpa using hf 1 f1 rfl, by simpa using hf 2 f2 rfl, by simpa using hf 3 f3 rfl⟩
theorem open_tr {n : Nat} {cs : List Value} {x : DataW H × List MemPlace} (h : DataW.trod enc Try.prog w base sp held n 52 cs = some x) : ∃ s : Tr, cs = [.int .u8 s.hub, .int .u8 s.ans, .int .u16 s.aft, .int .u16 s.len] ∧ s.ok := by
  obtain ⟨m, ys, hl, h0, h1, h2, h3⟩ := trod_struct4 Try.underlying52 h
  rw [cells52] at hl
  match cs, hl with
  | [c0, c1, c2, c3], _ =>
    simp only [cells5, cells49, List.drop_zero, List.drop_succ_cons, List.take_succ_cons, List.take_zero] at h0 h1 h2 h3
    obtain ⟨s0, e0, _, g0⟩ := DataW.trod_int Try.underlying5 h0
    obtain ⟨s1, e1, _, g1⟩ := DataW.trod_int Try.underlying5 h1
    obtain ⟨s2, e2, _, g2⟩ := DataW.trod_int Try.underlying49 h2
    obtain ⟨s3, e3, _, g3⟩ := DataW.trod_int Try.underlying49 h3
    simp only [List.cons.injEq, and_true] at e0 e1 e2 e3
    exact ⟨⟨s0, s1, s2, s3⟩, by rw [e0, e1, e2, e3], fits_u8 g0, fits_u8 g1, fits_u16 g2, fits_u16 g3⟩
theorem arg_voter (hv : Value.okWide Try.prog w r b0 25 v) (h : DataW.Trod enc Try.prog w base sp held 25 v d p) : ∃ x : Vo, v = .agg #[.int .i64 x.f, .int .i64 x.h, .int .i64 x.u] := by
  obtain ⟨cs, rfl, hsz⟩ := okWide_struct Try.underlying25 hv
  obtain ⟨k, h⟩ := h
  obtain ⟨x, e⟩ := open_vo h
  refine ⟨x, ?_⟩
  congr 1
  exact Array.toList_inj.1 e
theorem arg_lease (hv : Value.okWide Try.prog w r b0 27 v) (h : DataW.Trod enc Try.prog w base sp held 27 v d p) : ∃ x y z : Int, v = .agg #[.int .i64 x, .int .i64 y, .int .i64 z] := by
  obtain ⟨cs, rfl, hsz⟩ := okWide_struct Try.underlying27 hv
  obtain ⟨k, h⟩ := h
  obtain ⟨x, y, z, e⟩ := open_ls h
  refine ⟨x, y, z, ?_⟩
  congr 1
  exact Array.toList_inj.1 e
theorem arg_int {t : TypeId} {k : IntKind} (ht : Try.prog.underlying t = some (.int k)) (hv : Value.okWide Try.prog w r b0 t v) (h : DataW.Trod enc Try.prog w base sp held t v d p) : ∃ x : Int, v = .int k x ∧ k.min ≤ x ∧ x ≤ k.max := by
  obtain ⟨x, rfl, -, -, hw⟩ := open_int ht hv h
  refine ⟨x, rfl, ?_⟩
  have : (decide (k.min ≤ x) && decide (x ≤ k.max)) = true := hw
  rw [Bool.and_eq_true, decide_eq_true_iff, decide_eq_true_iff] at this
  exact this
theorem arg_bool (hv : Value.okWide Try.prog w r b0 4 v) (h : DataW.Trod enc Try.prog w base sp held 4 v d p) : ∃ x : Bool, v = .bool x := by
  obtain ⟨k, h⟩ := h
  obtain ⟨x, rfl⟩ := okWide_bool Try.underlying4 hv
  exact ⟨x, rfl⟩
theorem open_vos {n : Nat} {v : Value} {x : DataW H × List MemPlace} (h : DataW.trod enc Try.prog w base sp held n 22 [v] = some x) : ∃ l, VosAt w v l := by
  rcases Go.Deep.open_slice Try.underlying22 h with ⟨h0, _⟩ | ⟨a, len, cap, m, k, D, Pl, hv, _, hl, hm, hmm, _, hx⟩
  · simp only [List.cons.injEq, and_true] at h0
    exact ⟨[], ⟨none, 0, h0, by simp, fun h => absurd rfl h⟩⟩
  · simp only [List.cons.injEq, and_true] at hv
    rw [cells25] at hx
    have hle : len ≤ m := by rw [hmm]; split <;> omega
    obtain ⟨f, hf⟩ := Go.Deep.choose_lt (α := Vo) (p := fun i s => w.cells? base (a.add (i * 3)) 3 = some s.cells) (n := len) (fun i hi => by
      obtain ⟨cs', h1, h2⟩ := hx i (by omega)
      obtain ⟨s, rfl⟩ := open_vo h2
      exact ⟨s, h1⟩)
    refine ⟨(List.range len).map f, ⟨some a, cap, by rw [hv]; simp, by simp; omega, fun hne => ?_⟩⟩
    have hpos : 0 < len := by
      apply Classical.byContradiction; intro h0
      exact hne (by simp; omega)
    have hc := fun i hi => (World.cells?_some (hf i hi)).2.2
    have h00 := hc 0 hpos 0 (by omega)
    rw [Go.Deep.add_add, Nat.zero_mul, Nat.add_zero] at h00
    obtain ⟨b, off, rfl⟩ := plain_of h00
    refine ⟨b, off, rfl, fun i x hi => ?_⟩
    obtain ⟨hlt, rfl⟩ := range_get f len i x hi
    have hj := fun j hj => hc i hlt j hj
    simp only [Go.WideShapes.add_plain] at hj
    exact ⟨hj 0 (by omega), hj 1 (by omega), hj 2 (by omega)⟩
theorem open_bos {n : Nat} {v : Value} {x : DataW H × List MemPlace} (h : DataW.trod enc Try.prog w base sp held n 23 [v] = some x) : ∃ l, BosAt w v l := by
  rcases Go.Deep.open_slice Try.underlying23 h with ⟨h0, _⟩ | ⟨a, len, cap, m, k, D, Pl, hv, _, hl, hm, hmm, _, hx⟩
  · simp only [List.cons.injEq, and_true] at h0
    exact ⟨[], ⟨none, 0, h0, by simp, fun h => absurd rfl h⟩⟩
  · simp only [List.cons.injEq, and_true] at hv
    rw [cellsB] at hx
    have hle : len ≤ m := by rw [hmm]; split <;> omega
    obtain ⟨f, hf⟩ := Go.Deep.choose_lt (α := Bool) (p := fun i s => w.cells? base (a.add (i * 1)) 1 = some [.bool s]) (n := len) (fun i hi => by
      obtain ⟨cs', h1, h2⟩ := hx i (by omega)
      obtain ⟨s, rfl, _⟩ := DataW.trod_bool Try.underlying4 h2
      exact ⟨s, h1⟩)
    refine ⟨(List.range len).map f, ⟨some a, cap, by rw [hv]; simp, by simp; omega, fun hne => ?_⟩⟩
    have hpos : 0 < len := by
      apply Classical.byContradiction; intro h0
      exact hne (by simp; omega)
    have hc := fun i hi => (World.cells?_some (hf i hi)).2.2
    have h00 := hc 0 hpos 0 (by omega)
    rw [Go.Deep.add_add, Nat.zero_mul, Nat.add_zero] at h00
    obtain ⟨b, off, rfl⟩ := plain_of h00
    refine ⟨b, off, rfl, fun i x hi => ?_⟩
    obtain ⟨hlt, rfl⟩ := range_get f len i x hi
    have hj := fun j hj => hc i hlt j hj
    simp only [Go.WideShapes.add_plain, Nat.mul_one] at hj
    exact hj 0 (by omega)
theorem open_trs {n : Nat} {v : Value} {x : DataW H × List MemPlace} (h : DataW.trod enc Try.prog w base sp held n 40 [v] = some x) : ∃ l, TrsAt w v l ∧ ∀ x ∈ l, x.ok := by
  rcases Go.Deep.open_slice Try.underlying40 h with ⟨h0, _⟩ | ⟨a, len, cap, m, k, D, Pl, hv, _, hl, hm, hmm, _, hx⟩
  · simp only [List.cons.injEq, and_true] at h0
    exact ⟨[], ⟨⟨none, 0, h0, by simp, fun h => absurd rfl h⟩, by simp⟩⟩
  · simp only [List.cons.injEq, and_true] at hv
    rw [cells52] at hx
    have hle : len ≤ m := by rw [hmm]; split <;> omega
    obtain ⟨f, hf⟩ := Go.Deep.choose_lt (α := Tr) (p := fun i s => w.cells? base (a.add (i * 4)) 4 = some [.int .u8 s.hub, .int .u8 s.ans, .int .u16 s.aft, .int .u16 s.len] ∧ s.ok) (n := len) (fun i hi => by
      obtain ⟨cs', h1, h2⟩ := hx i (by omega)
      obtain ⟨s, rfl, hk⟩ := open_tr h2
      exact ⟨s, h1, hk⟩)
    refine ⟨(List.range len).map f, ⟨⟨some a, cap, by rw [hv]; simp, by simp; omega, fun hne => ?_⟩ , fun x hm => by
      obtain ⟨i, hi, rfl⟩ := List.mem_map.1 hm
      exact (hf i (List.mem_range.1 hi)).2⟩⟩
    have hpos : 0 < len := by
      apply Classical.byContradiction; intro h0
      exact hne (by simp; omega)
    have hc := fun i hi => (World.cells?_some (hf i hi).1).2.2
    have h00 := hc 0 hpos 0 (by omega)
    rw [Go.Deep.add_add, Nat.zero_mul, Nat.add_zero] at h00
    obtain ⟨b, off, rfl⟩ := plain_of h00
    refine ⟨b, off, rfl, fun i x hi => ?_⟩
    obtain ⟨hlt, rfl⟩ := range_get f len i x hi
    have hj := fun j hj => hc i hlt j hj
    simp only [Go.WideShapes.add_plain] at hj
    exact ⟨hj 0 (by omega), hj 1 (by omega), hj 2 (by omega), hj 3 (by omega)⟩
theorem arg_vos (hv : Value.okWide Try.prog w r b0 22 v) (h : DataW.Trod enc Try.prog w base sp held 22 v d p) : ∃ l, VosAt w v l := by
  obtain ⟨a, n, c, rfl⟩ := okWide_slice Try.underlying22 hv
  obtain ⟨k, h⟩ := h
  exact open_vos (v := .slice a n c) h
theorem arg_bos (hv : Value.okWide Try.prog w r b0 23 v) (h : DataW.Trod enc Try.prog w base sp held 23 v d p) : ∃ l, BosAt w v l := by
  obtain ⟨a, n, c, rfl⟩ := okWide_slice Try.underlying23 hv
  obtain ⟨k, h⟩ := h
  exact open_bos (v := .slice a n c) h
theorem arg_trs (hv : Value.okWide Try.prog w r b0 40 v) (h : DataW.Trod enc Try.prog w base sp held 40 v d p) : ∃ l, TrsAt w v l ∧ ∀ x ∈ l, x.ok := by
  obtain ⟨a, n, c, rfl⟩ := okWide_slice Try.underlying40 hv
  obtain ⟨k, h⟩ := h
  exact open_trs (v := .slice a n c) h
end
end Go.Proofs.Ytelohejnbfefoaa
