/- Delivery: acts as an argument; they are played. -/
import Derived.Test.YtkamkkjijjkfdaaGp
import Derived.Test.YtkamkkjijjkfdaaDo
namespace Go.Proofs.Ytkamkkjijjkfdaa
open Go.RowKit Go.WideShapes Go.ChangeShapes Go.Joins Go.Deep

structure Ac where
  a : Int
  b : Int
  c : Int
  d : Int
  e : Int
def Ac.ok (x : Ac) : Prop := (0 ≤ x.a ∧ x.a ≤ 255) ∧ (0 ≤ x.b ∧ x.b ≤ 255) ∧ (0 ≤ x.c ∧ x.c ≤ 255) ∧ (0 ≤ x.d ∧ x.d ≤ 255) ∧ 0 ≤ x.e ∧ x.e ≤ 255
def Ac.cells (x : Ac) : List Value := [.int .u8 x.a, .int .u8 x.b, .int .u8 x.c, .int .u8 x.d, .int .u8 x.e]
instance : Inhabited Ac := ⟨⟨0, 0, 0, 0, 0⟩⟩
/-- A list of acts behind a slice. -/
def AcsAt (w : World) (v : Value) (l : List Ac) : Prop :=
  ∃ a cap, v = .slice a l.length cap ∧ l.length ≤ maxLen ∧ (∀ x ∈ l, x.ok) ∧ (l ≠ [] → ∃ b off, a = some ⟨b, off, none⟩ ∧ ∀ (i : Nat) (x : Ac), l[i]? = some x →
    w.cell? ⟨b, off + i * 5, none⟩ = some (.int .u8 x.a) ∧ w.cell? ⟨b, off + i * 5 + 1, none⟩ = some (.int .u8 x.b) ∧ w.cell? ⟨b, off + i * 5 + 2, none⟩ = some (.int .u8 x.c) ∧ w.cell? ⟨b, off + i * 5 + 3, none⟩ = some (.int .u8 x.d) ∧ w.cell? ⟨b, off + i * 5 + 4, none⟩ = some (.int .u8 x.e))
theorem AcsAt.step {w w1 : World} {v : Value} {l : List Ac} (h : AcsAt w v l) (hb : Below w.heap.size w w1) : AcsAt w1 v l := by
  obtain ⟨a, cap, hv, h1, hm, hc⟩ := h
  refine ⟨a, cap, hv, h1, hm, fun hl => ?_⟩
  obtain ⟨b, off, ha, hx⟩ := hc hl
  refine ⟨b, off, ha, fun i x h => ?_⟩
  obtain ⟨q0, q1, q2, q3, q4⟩ := hx i x h
  exact ⟨keep1 hb q0, keep1 hb q1, keep1 hb q2, keep1 hb q3, keep1 hb q4⟩
theorem acs_nil (w : World) : AcsAt w (.slice none 0 0) [] := ⟨none, 0, rfl, by simp, (fun x h => (by cases h)), fun h => absurd rfl h⟩
theorem cells80 : Try.prog.cellsOf 80 = 5 := by kernel_rfl
theorem cells5 : Try.prog.cellsOf 5 = 1 := by kernel_rfl
theorem u8_wf {x : Int} (h : (Lit.int IntKind.u8 x).wf = true) : 0 ≤ x ∧ x ≤ 255 := by
  have : (decide (IntKind.u8.min ≤ x) && decide (x ≤ IntKind.u8.max)) = true := h
  rw [Bool.and_eq_true, decide_eq_true_iff, decide_eq_true_iff] at this
  exact this
section
variable {H : Type} {enc : TypeId × Value → H} {w : World} {base : Nat} {sp : Nat → Bool} {held : Bool} {r : Reach} {b0 : Nat} {v : Value} {d : DataW H} {p : List MemPlace}
theorem trod_struct5 {P : Program} {t : TypeId} {f0 f1 f2 f3 f4 : Field} {fuel : Nat} {cs : List Value} {x : DataW H × List MemPlace} (ht : P.underlying t = some (.struct #[f0, f1, f2, f3, f4])) (h : DataW.trod enc P w base sp held fuel t cs = some x) :
    ∃ (n : Nat) (ys : Nat → DataW H × List MemPlace), cs.length = P.cellsOf t ∧
      DataW.trod enc P w base sp held n f0.type ((cs.drop f0.offset).take (P.cellsOf f0.type)) = some (ys 0) ∧
      DataW.trod enc P w base sp held n f1.type ((cs.drop f1.offset).take (P.cellsOf f1.type)) = some (ys 1) ∧
      DataW.trod enc P w base sp held n f2.type ((cs.drop f2.offset).take (P.cellsOf f2.type)) = some (ys 2) ∧
      DataW.trod enc P w base sp held n f3.type ((cs.drop f3.offset).take (P.cellsOf f3.type)) = some (ys 3) ∧
      DataW.trod enc P w base sp held n f4.type ((cs.drop f4.offset).take (P.cellsOf f4.type)) = some (ys 4) := by
  obtain ⟨xs, n, _, rfl, hl, hlen, hf⟩ := DataW.trod_struct ht h
  match xs, hlen with
  | [y0, y1, y2, y3, y4], _ => exact ⟨n, fun i => match i with | 0 => y0 | 1 => y1 | 2 => y2 | 3 => y3 | _ => y4, hl, by simpa using hf 0 f0 rfl, by simpa using hf 1 f1 rfl, by simpa using hf 2 f2 rfl, by simpa using hf 3 f3 rfl, by simpa using hf 4 f4 rfl⟩
theorem open_ac {n : Nat} {cs : List Value} {x : DataW H × List MemPlace} (h : DataW.trod enc Try.prog w base sp held n 80 cs = some x) : ∃ y : Ac, cs = y.cells ∧ y.ok := by
  obtain ⟨m, ys, hl, h0, h1, h2, h3, h4⟩ := trod_struct5 Try.underlying80 h
  rw [cells80] at hl
  match cs, hl with
  | [c0, c1, c2, c3, c4], _ =>
    simp only [cells5, List.drop_zero, List.drop_succ_cons, List.take_succ_cons, List.take_zero] at h0 h1 h2 h3 h4
    obtain ⟨a, e0, -, g0⟩ := DataW.trod_int Try.underlying5 h0
    obtain ⟨b, e1, -, g1⟩ := DataW.trod_int Try.underlying5 h1
    obtain ⟨c, e2, -, g2⟩ := DataW.trod_int Try.underlying5 h2
    obtain ⟨d, e3, -, g3⟩ := DataW.trod_int Try.underlying5 h3
    obtain ⟨e, e4, -, g4⟩ := DataW.trod_int Try.underlying5 h4
    simp only [List.cons.injEq, and_true] at e0 e1 e2 e3 e4
    exact ⟨⟨a, b, c, d, e⟩, by rw [e0, e1, e2, e3, e4]; rfl, u8_wf g0, u8_wf g1, u8_wf g2, u8_wf g3, u8_wf g4⟩
theorem open_acs {n : Nat} {v : Value} {x : DataW H × List MemPlace} (h : DataW.trod enc Try.prog w base sp held n 45 [v] = some x) : ∃ l, AcsAt w v l := by
  rcases Go.Deep.open_slice Try.underlying45 h with ⟨h0, _⟩ | ⟨a, len, cap, m, k, D, Pl, hv, _, hl, hm, hmm, _, hx⟩
  · simp only [List.cons.injEq, and_true] at h0
    exact ⟨[], by rw [h0]; exact acs_nil w⟩
  · simp only [List.cons.injEq, and_true] at hv
    rw [cells80] at hx
    have hle : len ≤ m := by rw [hmm]; split <;> omega
    obtain ⟨f, hf⟩ := Go.Deep.choose_lt (α := Ac) (p := fun i s => w.cells? base (a.add (i * 5)) 5 = some s.cells ∧ s.ok) (n := len) (fun i hi => by
      obtain ⟨cs', h1, h2⟩ := hx i (by omega)
      obtain ⟨y, e, hy⟩ := open_ac h2
      exact ⟨y, by rw [h1, e], hy⟩)
    refine ⟨(List.range len).map f, some a, cap, by rw [hv]; simp, by simp; omega, fun x hx => ?_, fun hne => ?_⟩
    · obtain ⟨i, hi, rfl⟩ := List.mem_map.1 hx
      exact (hf i (List.mem_range.1 hi)).2
    have hpos : 0 < len := by
      apply Classical.byContradiction; intro h0
      exact hne (by simp; omega)
    have hc := fun i hi => (World.cells?_some (hf i hi).1).2.2
    have h00 := hc 0 hpos 0 (by simp)
    rw [Go.Deep.add_add, Nat.zero_mul, Nat.add_zero] at h00
    obtain ⟨b, off, rfl⟩ := plain_of h00
    refine ⟨b, off, rfl, fun i x hi => ?_⟩
    obtain ⟨hlt, rfl⟩ := range_get f len i x hi
    have hj := fun j hj => hc i hlt j hj
    simp only [Go.WideShapes.add_plain] at hj
    have q0 := hj 0 (by simp)
    have q1 := hj 1 (by simp)
    have q2 := hj 2 (by simp)
    have q3 := hj 3 (by simp)
    have q4 := hj 4 (by simp)
    exact ⟨q0, q1, q2, q3, q4⟩
theorem arg_acs (hv : Value.okWide Try.prog w r b0 45 v) (h : DataW.Trod enc Try.prog w base sp held 45 v d p) : ∃ l, AcsAt w v l := by
  obtain ⟨a, n, c, rfl⟩ := okWide_slice Try.underlying45 hv
  obtain ⟨k, h⟩ := h
  exact open_acs (v := .slice a n c) h
end
theorem ints_four {w : World} {B : Nat} {a b c d : Int} (h : Cs w B #[.int .i64 a, .int .i64 b, .int .i64 c, .int .i64 d]) : IntsAt w (.slice (some ⟨B, 0, none⟩) 4 4) [a, b, c, d] := by
  refine ⟨_, 4, rfl, by unfold maxLen; simp, fun _ => ⟨B, 0, rfl, fun i x hi => ?_⟩⟩
  rw [Nat.zero_add]
  rcases i with _ | _ | _ | _ | i
  · cases hi; exact h.c 0 rfl
  · cases hi; exact h.c 1 rfl
  · cases hi; exact h.c 2 rfl
  · cases hi; exact h.c 3 rfl
  · cases hi
theorem ac_get {l : List Ac} {k : Nat} (h : k < l.length) : l[k]? = some (l.getD k default) := by simp [h]
set_option maxRecDepth 100000 in
set_option maxHeartbeats 8000000 in
theorem play_any (v : Value) (l : List Ac) (sm : Bool) (w : World) (h : AcsAt w v l) (hl : l.length ≤ 200) :
    Calls Try.prog 21 #[v, .bool sm] w fun e w' => ∃ n : Nat, e = .returned (.tuple #[.pointer (some ⟨n, 0, none⟩), .bool true]) ∧ StR w.heap.size n sm l.length w' ∧ Below w.heap.size w w' := by
  have HL := Lib.hid h
  have HLN := Lib.hid hl
  obtain ⟨sa, sc, rfl, hm, -, -⟩ := h
  unfold maxLen at hm
  clear hl
  have HZ := Lib.hid (ints_four (Cs.new w w.heap.size #[.int .i64 0, .int .i64 0, .int .i64 0, .int .i64 0] 3 rfl))
  have HB0 := Lib.hid (al w (.cells #[.int .i64 0, .int .i64 0, .int .i64 0, .int .i64 0] 3))
  go_enter Try.func21, Try.ntmps21
  go_wp2_with fail
  refine (newrc_ok _ [0, 0, 0, 0] (by decide) _ HZ.out (by simp)).mono ?_
  rintro e u ⟨cc, vc, aa, va, rfl, hcc, hB, hI, b1⟩
  have HB1 := Lib.hid (keep2 b1 HB0.out)
  have HST := Lib.hid (show StR w.heap.size u.heap.size sm 0 (u.alloc (.cells #[.int .i64 0, .slice none 0 0, .int .i64 (-1), .slice aa 16 cc, .int .i64 0, .slice va 4 vc, .int .i64 0, .slice none 0 0, .slice none 0 0] 50)) from
    ⟨0, [], -1, List.replicate 16 false, 0, [0, 0, 0, 0], 0, [], [], ⟨none, aa, va, none, none, 0, cc, vc, 0, 0, {
      bn := HB1.out.size
      cs := Cs.new u _ _ 50 rfl
      pp := ods_nil _
      tt := hB.step (al _ _)
      tl := hcc
      vv := hI.step (al _ _)
      al := World.ownsRow_nil _ _ _ _
      dl := World.ownsRow_nil _ _ _ _
      np := fun q => absurd rfl q
      nt := fun g o q => Nat.ne_of_lt (bos_ltN hB (by decide) g o q)
      nv := fun g o q => Nat.ne_of_lt (ints_ltN hI (by decide) g o q)
      na := fun g o q => by cases q
      nd := fun g o q => by cases q
      ap := fun q => absurd rfl q
      at' := fun g o g' o' q q' => by cases q'
      av := fun g o g' o' q q' => by cases q'
      dp := fun q => absurd rfl q
      dt := fun g o g' o' q q' => by cases q'
      dv := fun g o g' o' q q' => by cases q'
      ad := fun g o g' o' q q' => by cases q' }⟩, inv0 sm⟩)
  have HBW := Lib.hid (show Below w.heap.size w (u.alloc (.cells #[.int .i64 0, .slice none 0 0, .int .i64 (-1), .slice aa 16 cc, .int .i64 0, .slice va 4 vc, .int .i64 0, .slice none 0 0, .slice none 0 0] 50)) from HB1.out.alloc HB1.out.size _)
  clear hB hI b1 HB0 HZ hcc
  go_wp2_with fail
  obtain ⟨W0, hW0⟩ : ∃ z, u.alloc (.cells #[.int .i64 0, .slice none 0 0, .int .i64 (-1), .slice aa 16 cc, .int .i64 0, .slice va 4 vc, .int .i64 0, .slice none 0 0, .slice none 0 0] 50) = z := ⟨_, rfl⟩
  try rw [hW0] at HST HBW ⊢
  clear hW0
  generalize u.heap.size = n at *
  go_loopw [7] (fun iv wr => ∃ k : Nat, k ≤ l.length ∧ iv = .int .i64 k ∧ Hid (StR w.heap.size n sm k wr) ∧ Hid (Below w.heap.size w wr)) (fun iv _ => l.length - (intOf iv).toNat)
  case atStart => exact ⟨0, by omega, rfl, HST, HBW⟩
  case round =>
    obtain ⟨k, hk, rfl, HS, HW⟩ := hrel
    by_cases hlt : k < l.length
    · obtain ⟨a1, c1, hv1, -, hok, hcs1⟩ := HL.out.step HW.out
      obtain ⟨rfl, rfl⟩ : sa = a1 ∧ sc = c1 := by simpa using hv1
      obtain ⟨b1, o1, rfl, hx1⟩ := hcs1 (by intro e; rw [e] at hlt; simp at hlt)
      obtain ⟨y0, y1, y2, y3, y4⟩ := hx1 k _ (ac_get hlt)
      have hx := hok _ (List.mem_of_getElem? (ac_get hlt))
      have yz : b1 < wr.heap.size := World.block_lt_of_cell? _ _ y0
      have t1 : (k : Int) < (l.length : Int) := by omega
      generalize l.getD k default = x at *
      obtain ⟨xd, xw, xv, xl, xf⟩ := x
      obtain ⟨g0, g1, g2, g3, g4⟩ := hx
      have HSI := Lib.hid (step_inv HS.out (by have := HLN.out; omega) g0 g1 g2 g3 g4)
      clear hcs1 hx1 hv1 hok g0 g1 g2 g3 g4 HS
      go_wp2_with fail
      refine HSI.out.mono ?_
      rintro e w2 ⟨rfl, hS, b2⟩
      have HS2 := Lib.hid hS
      have HW2 := Lib.hid (HW.out.trans b2)
      clear hS b2 HSI y0 y1 y2 y3 y4 yz
      go_wp2
      go_roundw
      case rel => exact ⟨k + 1, hlt, by go_num, HS2, HW2⟩
      case measure => simp [intOf]; omega
    · obtain rfl : k = l.length := by omega
      go_wp2
      exact bodyPost_ret (v := .tuple #[.pointer (some ⟨n, 0, none⟩), .bool true]) (by simp [results, Try.results21, go_sem]) rfl ⟨n, rfl, HS.out, HW.out⟩
end Go.Proofs.Ytkamkkjijjkfdaa
