import Derived.Test.YteodafhgfcbdpaaUm
import Derived.Test.YteodafhgfcbdpaaUn
namespace Go.Proofs.Yteodafhgfcbdpaa
open Go.RowKit

deriving instance DecidableEq for Mf, Pc
theorem hd_spE0 : spE 9 4 2 [1, 2, 3, 4, 5] = 0 := by decide +kernel
theorem hd_spM0_ : spM 9 4 2 [1, 2, 3, 4, 5] 0 = (⟨4, 3, 2, 49659217, 1453941846⟩ : Mf) := by decide +kernel
theorem hd_spL0 : spL 2 [1, 2, 3, 4, 5] 0 = ([⟨0, [1, 2], [643105354, 1400794521]⟩, ⟨1, [3, 4], [641105346, 1400794521]⟩, ⟨2, [5], [-1, 1902135710]⟩] : List Pc) := by decide +kernel
theorem hd_bg1 : bgE 9 3 ⟨4, 3, 2, 49659217, 1453941846⟩ = 0 := by decide +kernel
theorem hd_bg2 : bgE 9 4 ⟨4, 3, 2, 49659217, 1453941846⟩ = 31 := by decide +kernel
theorem hd_bg3 : bgE 8 3 ⟨4, 3, 2, 49659217, 1453941846⟩ = 15 := by decide +kernel
theorem hd_bgM1 : bgM 0 ⟨4, 3, 2, 49659217, 1453941846⟩ = ⟨4, 3, 2, 49659217, 1453941846⟩ := by decide +kernel
theorem hd_bgL1 : bgL 0 ⟨4, 3, 2, 49659217, 1453941846⟩ = [[], [], []] := by decide +kernel
theorem hd_bgM2 : bgM 31 ⟨4, 3, 2, 49659217, 1453941846⟩ = zMf := by decide +kernel
theorem hd_bgL2 : bgL 31 ⟨4, 3, 2, 49659217, 1453941846⟩ = [] := by decide +kernel
theorem hd_bgM3 : bgM 15 ⟨4, 3, 2, 49659217, 1453941846⟩ = zMf := by decide +kernel
theorem hd_bgL3 : bgL 15 ⟨4, 3, 2, 49659217, 1453941846⟩ = [] := by decide +kernel
theorem hd_ad1 : adE ⟨4, 3, 2, 49659217, 1453941846⟩ [[], [], []] 2 [5] [-1, 1902135710] = 0 := by decide +kernel
theorem hd_al1 : adL ⟨4, 3, 2, 49659217, 1453941846⟩ [[], [], []] 2 [5] [-1, 1902135710] = [[], [], [5]] := by decide +kernel
theorem hd_ad2 : adE ⟨4, 3, 2, 49659217, 1453941846⟩ [[], [], [5]] 0 [1, 2] [643105354, 1400794521] = 0 := by decide +kernel
theorem hd_al2 : adL ⟨4, 3, 2, 49659217, 1453941846⟩ [[], [], [5]] 0 [1, 2] [643105354, 1400794521] = [[1, 2], [], [5]] := by decide +kernel
theorem hd_ad3 : adE ⟨4, 3, 2, 49659217, 1453941846⟩ [[1, 2], [], [5]] 2 [5] [-1, 1902135710] = 0 := by decide +kernel
theorem hd_al3 : adL ⟨4, 3, 2, 49659217, 1453941846⟩ [[1, 2], [], [5]] 2 [5] [-1, 1902135710] = [[1, 2], [], [5]] := by decide +kernel
theorem hd_ad4 : adE ⟨4, 3, 2, 49659217, 1453941846⟩ [[1, 2], [], [5]] 1 [3, 5] [641105346, 1400794521] = 17 := by decide +kernel
theorem hd_al4 : adL ⟨4, 3, 2, 49659217, 1453941846⟩ [[1, 2], [], [5]] 1 [3, 5] [641105346, 1400794521] = [[1, 2], [], [5]] := by decide +kernel
theorem hd_ad5 : adE ⟨4, 3, 2, 49659217, 1453941846⟩ [[1, 2], [], [5]] 1 [3, 4] [641105346, 1400794521] = 0 := by decide +kernel
theorem hd_al5 : adL ⟨4, 3, 2, 49659217, 1453941846⟩ [[1, 2], [], [5]] 1 [3, 4] [641105346, 1400794521] = [[1, 2], [3, 4], [5]] := by decide +kernel
theorem hd_jo1 : joE ⟨4, 3, 2, 49659217, 1453941846⟩ [[1, 2], [], [5]] = 28 := by decide +kernel
theorem hd_jd1 : joD 28 [[1, 2], [], [5]] = [] := by decide +kernel
theorem hd_jo2 : joE ⟨4, 3, 2, 49659217, 1453941846⟩ [[1, 2], [3, 4], [5]] = 0 := by decide +kernel
theorem hd_jd2 : joD 0 [[1, 2], [3, 4], [5]] = [1, 2, 3, 4, 5] := by decide +kernel
theorem hd_ms1 : msB ⟨4, 3, 2, 49659217, 1453941846⟩ [[1, 2], [], [5]] = [1] := by decide +kernel
theorem hd_tg1 : Dg [9, 4, 4, 3, 2, 49659217] = 1453941846 := by decide +kernel
open Go.RowKit

/-- The three pieces in memory. -/
structure P3At (b off : Nat) (q : Nat → Option Addr) (r : Nat → Nat) (W : World) : Prop where
  lt : b < W.heap.size
  c0 : W.cell? ⟨b, off, none⟩ = some (.int .i64 0)
  c1 : W.cell? ⟨b, off + 1, none⟩ = some (.slice (q 0) 2 (r 0))
  c2 : W.cell? ⟨b, off + 2, none⟩ = some (.slice (q 1) 2 (r 1))
  d0 : IntsAt W (.slice (q 0) 2 (r 0)) [1, 2]
  p0 : CapI W (.slice (q 1) 2 (r 1)) [643105354, 1400794521]
  c3 : W.cell? ⟨b, off + 3, none⟩ = some (.int .i64 1)
  c4 : W.cell? ⟨b, off + 4, none⟩ = some (.slice (q 2) 2 (r 2))
  c5 : W.cell? ⟨b, off + 5, none⟩ = some (.slice (q 3) 2 (r 3))
  d1 : IntsAt W (.slice (q 2) 2 (r 2)) [3, 4]
  p1 : CapI W (.slice (q 3) 2 (r 3)) [641105346, 1400794521]
  c6 : W.cell? ⟨b, off + 6, none⟩ = some (.int .i64 2)
  c7 : W.cell? ⟨b, off + 7, none⟩ = some (.slice (q 4) 1 (r 4))
  c8 : W.cell? ⟨b, off + 8, none⟩ = some (.slice (q 5) 2 (r 5))
  d2 : IntsAt W (.slice (q 4) 1 (r 4)) [5]
  p2 : CapI W (.slice (q 5) 2 (r 5)) [-1, 1902135710]
theorem P3At.step {b off : Nat} {q : Nat → Option Addr} {r : Nat → Nat} {W W' : World} (h : P3At b off q r W) (hb : Below W.heap.size W W') : P3At b off q r W' :=
  ⟨Nat.lt_of_lt_of_le h.lt hb.size, keep1 hb h.c0, keep1 hb h.c1, keep1 hb h.c2, h.d0.step hb, h.p0.step hb, keep1 hb h.c3, keep1 hb h.c4, keep1 hb h.c5, h.d1.step hb, h.p1.step hb, keep1 hb h.c6, keep1 hb h.c7, keep1 hb h.c8, h.d2.step hb, h.p2.step hb⟩
theorem P3At.of {w : World} {u : Value} (h : PcsAt w u [⟨0, [1, 2], [643105354, 1400794521]⟩, ⟨1, [3, 4], [641105346, 1400794521]⟩, ⟨2, [5], [-1, 1902135710]⟩]) : ∃ b off c q r, u = .slice (some ⟨b, off, none⟩) 3 c ∧ P3At b off q r w := by
  obtain ⟨a, c, rfl, -, h⟩ := h
  obtain ⟨b, off, rfl, h2⟩ := h (by simp)
  obtain ⟨x0, y0, e00, e01, e02, e03, e04⟩ := h2 0 _ rfl
  obtain ⟨q0, r0, rfl, -, -⟩ : ∃ (a : Option Addr) (c : Nat), x0 = .slice a 2 c ∧ True ∧ True := by
    obtain ⟨a, c, e, -⟩ := e03
    exact ⟨a, c, e, trivial, trivial⟩
  obtain ⟨q1, r1, rfl, -⟩ : ∃ (a : Option Addr) (c : Nat), y0 = .slice a 2 c ∧ True := by
    obtain ⟨-, a, c, e, -⟩ := e04
    exact ⟨a, c, e, trivial⟩
  obtain ⟨x1, y1, e10, e11, e12, e13, e14⟩ := h2 1 _ rfl
  obtain ⟨q2, r2, rfl, -, -⟩ : ∃ (a : Option Addr) (c : Nat), x1 = .slice a 2 c ∧ True ∧ True := by
    obtain ⟨a, c, e, -⟩ := e13
    exact ⟨a, c, e, trivial, trivial⟩
  obtain ⟨q3, r3, rfl, -⟩ : ∃ (a : Option Addr) (c : Nat), y1 = .slice a 2 c ∧ True := by
    obtain ⟨-, a, c, e, -⟩ := e14
    exact ⟨a, c, e, trivial⟩
  obtain ⟨x2, y2, e20, e21, e22, e23, e24⟩ := h2 2 _ rfl
  obtain ⟨q4, r4, rfl, -, -⟩ : ∃ (a : Option Addr) (c : Nat), x2 = .slice a 1 c ∧ True ∧ True := by
    obtain ⟨a, c, e, -⟩ := e23
    exact ⟨a, c, e, trivial, trivial⟩
  obtain ⟨q5, r5, rfl, -⟩ : ∃ (a : Option Addr) (c : Nat), y2 = .slice a 2 c ∧ True := by
    obtain ⟨-, a, c, e, -⟩ := e24
    exact ⟨a, c, e, trivial⟩
  refine ⟨b, off, c, fun k => [q0, q1, q2, q3, q4, q5].getD k none, fun k => [r0, r1, r2, r3, r4, r5].getD k 0, rfl, World.block_lt_of_cell? _ _ e00, e00, e01, e02, e03, e04, e10, e11, e12, e13, e14, e20, e21, e22, e23, e24⟩
/-- The last piece's path begins with -1. -/
theorem P3At.alone {b off : Nat} {q : Nat → Option Addr} {r : Nat → Nat} {W : World} (h : P3At b off q r W) : ∃ pb po, q 5 = some ⟨pb, po, none⟩ ∧ W.cell? ⟨pb, po, none⟩ = some (.int .i64 (-1)) ∧ pb < W.heap.size := by
  obtain ⟨⟨a, c, e, -, hx⟩, -⟩ := h.p2
  obtain ⟨b2, o2, e3, hx2⟩ := hx (by simp)
  have e4 : q 5 = a := by simp at e; exact e.1
  have := hx2 0 _ rfl
  exact ⟨b2, o2, e4.trans e3, this, World.block_lt_of_cell? _ _ this⟩
theorem tyB_box {w : World} {k : Nat} {vs : Array Value} {t : TypeId} (h : BoxN w k vs t) : tyB w k = some t := by unfold tyB; rw [show w.heap[k]? = _ from h]; rfl
/-- A box of another kind is stored into. -/
theorem OwR.off {n1 n2 k : Nat} {L : List (List Int)} {lv : Value} {w : World} (h : OwR n1 n2 L lv w) (h1 : n1 ≤ k) {t : TypeId} (ht : tyB w k = some t) (h3 : t ≠ 3) (h22 : t ≠ 22) (j : Nat) (x : Value) : OwR n1 n2 L lv (w.setCell ⟨k, j, none⟩ x) := by
  obtain ⟨a, c, e, hm, h⟩ := h
  refine ⟨a, c, e, hm, fun hl => ?_⟩
  obtain ⟨g, e1, g2, g3, g4⟩ := h hl
  refine ⟨g, e1, g2, by simpa using g3, fun i hi => ?_⟩
  obtain ⟨f, u, hu, hi2, ha⟩ := g4 i hi
  have hne : (⟨g, i, none⟩ : Addr).block ≠ k := by
    show g ≠ k
    rintro rfl
    rw [ha.2] at ht
    exact h22 (by simpa using ht.symm)
  refine ⟨(World.frozen?_of_block (a := ⟨g, i, none⟩) (Below.heap_setCell w ⟨k, j, none⟩ x g hne)).trans f, u, (World.cell?_of_block (a := ⟨g, i, none⟩) (Below.heap_setCell w ⟨k, j, none⟩ x g hne)).trans hu, ints_away hi2 (fun hx b off n c e => ?_) _ _, fun q b off n c e => by rw [tyB_set]; exact ha.1 q b off n c e, by rw [tyB_set]; exact ha.2⟩
  have h9 := (ha.1 hx b off n c e).1
  rintro rfl
  rcases h9 with h9 | ⟨-, h9⟩
  · omega
  · rw [h9] at ht; exact h3 (by simpa using ht.symm)
/-- What a call of 'Add' left, its number drawn out, and the box of its slot. -/
def QoT (N : Nat) (m : Mf) (L : List (List Int)) (n : Nat) (E : Int) (b : Bool) (v : Value) (w : World) : Prop := ∃ a c n2, v = .tuple #[.agg #[.int .i64 m.v, .int .i64 m.c, .int .i64 m.s, .int .i64 m.r, .int .i64 m.t, .slice a n c], .int .i64 E] ∧ (b = false → OwR N n2 L (.slice a n c) w)
theorem QoT.step {N : Nat} {m : Mf} {L : List (List Int)} {n : Nat} {E : Int} {b : Bool} {v : Value} {w w' : World} (h : QoT N m L n E b v w) (hb : Below w.heap.size w w') : QoT N m L n E b v w' := by
  obtain ⟨a, c, n2, e, h⟩ := h
  exact ⟨a, c, n2, e, fun q => (h q).step hb⟩
theorem QoT.put {N : Nat} {m : Mf} {L : List (List Int)} {n : Nat} {E : Int} {b : Bool} {v : Value} {w : World} (h : QoT N m L n E b v w) (w' : World) : QoT N m L n E true v w' := by
  obtain ⟨a, c, n2, e, h⟩ := h
  exact ⟨a, c, n2, e, fun q => by cases q⟩
def QoA (N : Nat) (m : Mf) (L : List (List Int)) (n : Nat) (b : Bool) (v : Value) (w : World) : Prop := ∃ a c n2, v = .agg #[.int .i64 m.v, .int .i64 m.c, .int .i64 m.s, .int .i64 m.r, .int .i64 m.t, .slice a n c] ∧ (b = false → OwR N n2 L (.slice a n c) w)
theorem QoA.step {N : Nat} {m : Mf} {L : List (List Int)} {n : Nat} {b : Bool} {v : Value} {w w' : World} (h : QoA N m L n b v w) (hb : Below w.heap.size w w') : QoA N m L n b v w' := by
  obtain ⟨a, c, n2, e, h⟩ := h
  exact ⟨a, c, n2, e, fun q => (h q).step hb⟩
theorem QoA.put {N : Nat} {m : Mf} {L : List (List Int)} {n : Nat} {b : Bool} {v : Value} {w : World} (h : QoA N m L n b v w) (w' : World) : QoA N m L n true v w' := by
  obtain ⟨a, c, n2, e, h⟩ := h
  exact ⟨a, c, n2, e, fun q => by cases q⟩
/-- The box of a slot: it holds the slot, its rows lie beside it. -/
def BxO (N : Nat) (m : Mf) (L : List (List Int)) (n : Nat) (k : Nat) (w : World) : Prop := ∃ a c n2, BoxN w k #[.int .i64 m.v, .int .i64 m.c, .int .i64 m.s, .int .i64 m.r, .int .i64 m.t, .slice a n c] 27 ∧ OwR N n2 L (.slice a n c) w
theorem BxO.step {N : Nat} {m : Mf} {L : List (List Int)} {n : Nat} {k : Nat} {w w' : World} (h : BxO N m L n k w) (hb : Below w.heap.size w w') : BxO N m L n k w' := by
  obtain ⟨a, c, n2, h1, h2⟩ := h
  exact ⟨a, c, n2, h1.step hb, h2.step hb⟩
def ZB6 : Array Value := #[.int .i64 0, .int .i64 0, .int .i64 0, .int .i64 0, .int .i64 0, .slice none 0 0]
def QoK (N : Nat) (m : Mf) (L : List (List Int)) (n : Nat) (b : Bool) (v : Value) (w : World) : Prop := ∃ k, v = .pointer (some ⟨k, 0, none⟩) ∧ N ≤ k ∧ (b = false → BoxN w k ZB6 27) ∧ (b = true → BxO 0 m L n k w)
theorem QoK.step {N : Nat} {m : Mf} {L : List (List Int)} {n : Nat} {b : Bool} {v : Value} {w w' : World} (h : QoK N m L n b v w) (hb : Below w.heap.size w w') : QoK N m L n b v w' := by
  obtain ⟨k, e, h1, h2, h3⟩ := h
  exact ⟨k, e, h1, fun q => (h2 q).step hb, fun q => (h3 q).step hb⟩
def putS (w : World) (k : Nat) (m : Mf) (v : Value) : World := (((((w.setCell ⟨k, 0, none⟩ (.int .i64 m.v)).setCell ⟨k, 1, none⟩ (.int .i64 m.c)).setCell ⟨k, 2, none⟩ (.int .i64 m.s)).setCell ⟨k, 3, none⟩ (.int .i64 m.r)).setCell ⟨k, 4, none⟩ (.int .i64 m.t)).setCell ⟨k, 5, none⟩ v
theorem OwR.putS {n1 n2 k : Nat} {L : List (List Int)} {lv : Value} {w : World} (h : OwR n1 n2 L lv w) (h1 : n1 ≤ k) (ht : tyB w k = some 27) (m : Mf) (v : Value) : OwR n1 n2 L lv (putS w k m v) := by
  have q0 := h.off h1 ht (by decide) (by decide) 0 (.int .i64 m.v)
  have q1 := q0.off h1 ((tyB_set _ _ _ _).trans ht) (by decide) (by decide) 1 (.int .i64 m.c)
  have q2 := q1.off h1 (by simp only [tyB_set]; exact ht) (by decide) (by decide) 2 (.int .i64 m.s)
  have q3 := q2.off h1 (by simp only [tyB_set]; exact ht) (by decide) (by decide) 3 (.int .i64 m.r)
  have q4 := q3.off h1 (by simp only [tyB_set]; exact ht) (by decide) (by decide) 4 (.int .i64 m.t)
  exact q4.off h1 (by simp only [tyB_set]; exact ht) (by decide) (by decide) 5 v
theorem box_putS {w : World} {k : Nat} {z : Array Value} (h : BoxN w k z 27) (hz : z.size = 6) (m : Mf) (v : Value) : BoxN (putS w k m v) k #[.int .i64 m.v, .int .i64 m.c, .int .i64 m.s, .int .i64 m.r, .int .i64 m.t, v] 27 := by
  obtain ⟨l⟩ := z
  match l, hz with
  | [a0, a1, a2, a3, a4, a5], _ => exact (((((h.set 0 _ rfl).set 1 _ rfl).set 2 _ rfl).set 3 _ rfl).set 4 _ rfl).set 5 _ rfl
theorem putS_below {B k : Nat} (w : World) (h : B ≤ k) (m : Mf) (v : Value) : Below B w (putS w k m v) :=
  (((((((Below.refl B w).setCell (p := ⟨k, 0, none⟩) h _).setCell (p := ⟨k, 1, none⟩) h _).setCell (p := ⟨k, 2, none⟩) h _).setCell (p := ⟨k, 3, none⟩) h _).setCell (p := ⟨k, 4, none⟩) h _).setCell (p := ⟨k, 5, none⟩) h _)
theorem ints_bel (v u : Value) (l l' : List Int) (w : World) (h : IntsAt w v l) (h' : IntsAt w u l') : Calls Try.prog 21 #[v, u] w fun e w' => e = .returned (.bool (decide (l = l'))) ∧ Below w.heap.size w w' :=
  (ints_any v u l l' w h h').mono fun e w' h => ⟨h.1, by obtain ⟨-, n, rfl⟩ := h; exact below_drewN' _ _ _⟩
structure YA (pb po : Nat) (W : World) : Prop where
  c : W.cell? ⟨pb, po, none⟩ = some (.int .i64 (-1))
  lt : pb < W.heap.size
theorem YA.step {pb po : Nat} {W W' : World} (h : YA pb po W) (hb : Below W.heap.size W W') : YA pb po W' := ⟨keep1 hb h.c, Nat.lt_of_lt_of_le h.lt hb.size⟩
theorem cs_of_box {w : World} {k : Nat} {vs : Array Value} {t : TypeId} (h : BoxN w k vs t) : Cs w k vs := ⟨fun j _ => h.cell j, fun j _ => h.frz j, h.lt⟩
end Go.Proofs.Yteodafhgfcbdpaa
