/- The contracts of the reference's 'Last', 'Of', 'Same'. -/
import Derived.Test.YtloilkfloidnjaaB
namespace Go.Proofs.Ytloilkfloidnjaa
open Go.RowKit

theorem below_drewN' (B : Nat) (W : World) (n : Nat) : Below B W (W.drewN n) := ⟨rfl, rfl, rfl, Nat.le_refl _, fun _ _ => rfl⟩
theorem below_drew (B : Nat) (W : World) : Below B W W.drew := ⟨rfl, rfl, rfl, Nat.le_refl _, fun _ _ => rfl⟩
/-- A setting as a value. -/
def Sett.val (x : Sett) : Value := .agg #[.string x.dev, .string x.attr, .string x.name, .int .i64 x.ten, .string x.unit]
def zS : Sett := ⟨⟨#[]⟩, ⟨#[]⟩, ⟨#[]⟩, 0, ⟨#[]⟩⟩
/-- A setting is one of an attribute. -/
def sR (x : Sett) (d a : ByteArray) : Bool := sE x.dev d && sE x.attr a
/-- The last setting of an attribute among the first n. -/
def lN (l : List Sett) (d a : ByteArray) : Nat → Option Nat
  | 0 => none
  | n + 1 => if sR (l.getD n zS) d a then some n else lN l d a n
def lI (l : List Sett) (d a : ByteArray) : Option Nat := lN l d a l.length
/-- The setting with an index, or the zero one. -/
def sAt (l : List Sett) : Option Nat → Sett
  | some k => l.getD k zS
  | none => zS
theorem lN_lt (l : List Sett) (d a : ByteArray) (n k : Nat) (h : lN l d a n = some k) : k < n := by
  induction n with
  | zero => simp [lN] at h
  | succ n ih =>
    unfold lN at h
    split at h
    · simp at h; omega
    · have := ih h; omega
/-- What 'Last' gives. -/
def LastPost (l : List Sett) (d a : ByteArray) (w : World) (e : Ending) (w' : World) : Prop :=
  e = .returned (.tuple #[(sAt l (lI l d a)).val, .bool (lI l d a).isSome]) ∧ Below w.heap.size w w'
theorem LastPost.mk {l : List Sett} {d a : ByteArray} {w w' : World} {o : Option Nat} {v : Value} {b : Bool} (h : lI l d a = o) (hv : v = (sAt l o).val) (hb : b = o.isSome) (hB : Below w.heap.size w w') : LastPost l d a w (.returned (.tuple #[v, .bool b])) w' := by
  subst h hv hb; exact ⟨rfl, hB⟩
theorem getD_of {l : List Sett} {n : Nat} (h : n < l.length) : l[n]? = some (l.getD n zS) := by simp [List.getD_eq_getElem?_getD, h]
/-- The world behind the three boxes of 'Last'. -/
def w3 (w : World) (nm : ByteArray) (ly : Int) (sv : Value) (d a : ByteArray) : World :=
  ((w.alloc (.cells #[.string nm, .int .i64 ly, sv] 44)).alloc (.cells #[.string d, .string a] 25)).alloc (.cells #[.string ⟨#[]⟩, .string ⟨#[]⟩, .string ⟨#[]⟩, .int .i64 0, .string ⟨#[]⟩] 40)
theorem w3_below (w : World) (nm : ByteArray) (ly : Int) (sv : Value) (d a : ByteArray) : Below w.heap.size w (w3 w nm ly sv d a) := (((Below.refl _ _).alloc (Nat.le_refl _) _).alloc (by simp) _).alloc (by simp; omega) _
theorem cell_new' (w : World) (cs : Array Value) (t : TypeId) (n : Nat) (hn : n = w.heap.size) (j : Nat) : (w.alloc (.cells cs t)).cell? ⟨n, j, none⟩ = cs[j]? := by
  subst hn; simp
theorem heap_new' (w : World) (o : Obj) : (w.alloc o).heap[w.heap.size]? = some o := by
  show (w.heap.push o)[w.heap.size]? = some o
  simp
theorem frozen_new (w : World) (cs : Array Value) (t : TypeId) (j : Nat) : (w.alloc (.cells cs t)).frozen? ⟨w.heap.size, j, none⟩ = false := by
  have := heap_new' w (.cells cs t); simp only [World.frozen?, this]; simp
/-- The cells of the boxes, in a later world. -/
theorem w3_facts {w wr : World} {nm : ByteArray} {ly : Int} {sv : Value} {d a : ByteArray} (hb : Below (w.heap.size + 3) (w3 w nm ly sv d a) wr) :
    wr.cell? ⟨w.heap.size, 2, none⟩ = some sv ∧ wr.cell? ⟨w.heap.size + 1, 0, none⟩ = some (.string d) ∧ wr.cell? ⟨w.heap.size + 1, 1, none⟩ = some (.string a) ∧
    (∀ j, wr.cell? ⟨w.heap.size + 1 + 1, j, none⟩ = (#[.string ⟨#[]⟩, .string ⟨#[]⟩, .string ⟨#[]⟩, .int .i64 0, .string ⟨#[]⟩] : Array Value)[j]?) ∧ (∀ j, wr.frozen? ⟨w.heap.size + 1 + 1, j, none⟩ = false) ∧ w.heap.size + 1 + 1 < wr.heap.size := by
  have h := fun n j (hn : n < w.heap.size + 3) => hb.cell (p := ⟨n, j, none⟩) hn
  have g := fun n j (hn : n < w.heap.size + 3) => hb.frozen (p := ⟨n, j, none⟩) hn
  have hz : w.heap.size + 3 ≤ wr.heap.size := Nat.le_trans (by simp [w3]) hb.size
  refine ⟨(h _ 2 (by omega)).trans ?_, (h _ 0 (by omega)).trans ?_, (h _ 1 (by omega)).trans ?_, fun j => (h _ j (by omega)).trans ?_, fun j => (g _ j (by omega)).trans ?_, by omega⟩
  · unfold w3; rw [World.cell?_alloc_past _ _ _ (by simp; omega), World.cell?_alloc_past _ _ _ (by simp)]; exact cell_new' _ _ _ _ rfl 2
  · unfold w3; rw [World.cell?_alloc_past _ _ _ (by simp)]; exact cell_new' _ _ _ _ (by simp) 0
  · unfold w3; rw [World.cell?_alloc_past _ _ _ (by simp)]; exact cell_new' _ _ _ _ (by simp) 1
  · exact cell_new' _ _ _ _ (by simp) j
  · have := frozen_new ((w.alloc (.cells #[.string nm, .int .i64 ly, sv] 44)).alloc (.cells #[.string d, .string a] 25)) #[.string ⟨#[]⟩, .string ⟨#[]⟩, .string ⟨#[]⟩, .int .i64 0, .string ⟨#[]⟩] 40 j
    simpa [w3] using this
theorem five_set {B : Nat} {w wr : World} (h : Below B w wr) {n : Nat} (hn : B ≤ n) (x y z u t : Value) :
    Below B w (((((wr.setCell ⟨n, 0, none⟩ x).setCell ⟨n, 1, none⟩ y).setCell ⟨n, 2, none⟩ z).setCell ⟨n, 3, none⟩ u).setCell ⟨n, 4, none⟩ t) :=
  ((((h.setCell (p := ⟨n, 0, none⟩) hn _).setCell (p := ⟨n, 1, none⟩) hn _).setCell (p := ⟨n, 2, none⟩) hn _).setCell (p := ⟨n, 3, none⟩) hn _).setCell (p := ⟨n, 4, none⟩) hn _

set_option maxRecDepth 100000 in
set_option maxHeartbeats 4000000 in
theorem last_any (nm : ByteArray) (ly : Int) (sv : Value) (l : List Sett) (d a : ByteArray) (w : World) (h : SettsAt w sv l) :
    Calls Try.prog 18 #[.agg #[.string nm, .int .i64 ly, sv], .agg #[.string d, .string a]] w (LastPost l d a w) := by
  obtain ⟨sa, cap, rfl, hm, hc⟩ := h
  unfold maxLen at hm
  have HC := Lib.hid hc
  clear hc
  go_enter Try.func18, Try.ntmps18
  go_wp2_with fail
  go_loopw [6] (fun i wr => ∃ n : Nat, n ≤ l.length ∧ i = .int .i64 ((n : Int) - 1) ∧ Hid (lI l d a = lN l d a n) ∧ Hid (Below (w.heap.size + 3) (w3 w nm ly (.slice sa l.length cap) d a) wr)) (fun i _ => ((intOf i) + 1).toNat)
  case atStart => exact ⟨l.length, Nat.le_refl _, rfl, rfl, Below.refl _ _⟩
  case round =>
    obtain ⟨n, hn, rfl, HN, HB⟩ := hrel
    have hf := w3_facts HB.out
    obtain ⟨x2, y0, y1, hz, hfz, hsz⟩ := hf
    have z0 := hz 0
    have z1 := hz 1
    have z2 := hz 2
    have z3 := hz 3
    have z4 := hz 4
    have f0 := hfz 0
    have f1 := hfz 1
    have f2 := hfz 2
    have f3 := hfz 3
    have f4 := hfz 4
    simp at z0 z1 z2 z3 z4
    have HBl := Lib.hid ((w3_below w nm ly (.slice sa l.length cap) d a).trans (HB.out.mono (by omega)))
    clear hz hfz
    cases n with
    | zero =>
      go_wp2
      refine bodyPost_ret (v := .tuple #[zS.val, .bool false]) (by simp [results, Try.results18, go_sem, zS, Sett.val, z0, z1, z2, z3, z4]) rfl (LastPost.mk (o := none) HN.out rfl rfl ?_)
      exact five_set HBl.out (by omega) _ _ _ _ _
    | succ n =>
      obtain ⟨b, off, rfl, hcs⟩ := HC.out (by intro h; rw [h] at hn; simp at hn)
      have hx := hcs n _ (getD_of (by omega))
      have hx' : ∀ p v, w.cell? p = some v → wr.cell? p = some v := fun p v h => keep1 HBl.out h
      obtain ⟨e0, e1, e2, e3, e4⟩ := hx
      have e0' := hx' _ _ e0
      have e1' := hx' _ _ e1
      have e2' := hx' _ _ e2
      have e3' := hx' _ _ e3
      have e4' := hx' _ _ e4
      have hi : ((n + 1 : Nat) : Int) - 1 = n := by omega
      rw [hi]
      have hn1 : (n : Int) < l.length := by omega
      clear hcs e0 e1 e2 e3 e4 hx' hi
      have HS := Lib.hid (show lN l d a (n + 1) = if sR (l.getD n zS) d a then some n else lN l d a n from rfl)
      have HV := Lib.hid (show (sAt l (some n)).val = (l.getD n zS).val from rfl)
      generalize l.getD n zS = x at *
      obtain ⟨xd, xa, xn, xt, xu⟩ := x
      simp only at e0' e1' e2' e3' e4'
      cases hd : (xd.toList == d.toList)
      · have HR := Lib.hid (HN.out.trans (HS.out.trans (if_neg (by unfold sR sE; simp only; rw [hd]; simp))))
        go_wp2
        go_quiet (fail)
        go_wp2
        go_roundw
        case rel => exact ⟨n, by omega, by go_num, HR, HB.out.trans (below_drewN' _ _ _)⟩
        case measure => simp [intOf]
      · cases ha : (xa.toList == a.toList)
        · have HR := Lib.hid (HN.out.trans (HS.out.trans (if_neg (by unfold sR sE; simp only; rw [hd, ha]; simp))))
          go_wp2
          go_quiet (fail)
          go_wp2
          go_roundw
          case rel => exact ⟨n, by omega, by go_num, HR, HB.out.trans (below_drewN' _ _ _)⟩
          case measure => simp [intOf]
        · have HR := Lib.hid (HN.out.trans (HS.out.trans (if_pos (by unfold sR sE; simp only; rw [hd, ha]; rfl))))
          go_wp2
          go_quiet (fail)
          go_wp2
          refine bodyPost_ret (v := .tuple #[Sett.val ⟨xd, xa, xn, xt, xu⟩, .bool true]) (by simp [results, Try.results18, go_sem, Sett.val, z0, z1, z2, z3, z4]) rfl (LastPost.mk (o := some n) HR.out HV.out.symm rfl ?_)
          exact five_set (HBl.out.trans (below_drewN' _ _ _)) (by omega) _ _ _ _ _
theorem two_below {w w1 : World} {o1 o2 : Obj} (hb : Below ((w.alloc o1).alloc o2).heap.size ((w.alloc o1).alloc o2) w1) : Below w.heap.size w w1 :=
  (((Below.refl _ _).alloc (Nat.le_refl _) _).alloc (by simp) _).trans (hb.mono (by simp; omega))
theorem five_later {w w1 : World} {o1 : Obj} {x y z u t : Value} {T : TypeId} (hb : Below ((w.alloc o1).alloc (.cells #[x, y, z, u, t] T)).heap.size ((w.alloc o1).alloc (.cells #[x, y, z, u, t] T)) w1) :
    w.heap.size + 1 < w1.heap.size ∧ (w1.cell? ⟨w.heap.size + 1, 0, none⟩ = some x ∧ w1.frozen? ⟨w.heap.size + 1, 0, none⟩ = false) ∧ (w1.cell? ⟨w.heap.size + 1, 1, none⟩ = some y ∧ w1.frozen? ⟨w.heap.size + 1, 1, none⟩ = false) ∧
    (w1.cell? ⟨w.heap.size + 1, 2, none⟩ = some z ∧ w1.frozen? ⟨w.heap.size + 1, 2, none⟩ = false) ∧ (w1.cell? ⟨w.heap.size + 1, 3, none⟩ = some u ∧ w1.frozen? ⟨w.heap.size + 1, 3, none⟩ = false) ∧ (w1.cell? ⟨w.heap.size + 1, 4, none⟩ = some t ∧ w1.frozen? ⟨w.heap.size + 1, 4, none⟩ = false) := by
  have e : w.heap.size + 1 = (w.alloc o1).heap.size := by simp
  have hlt : (w.alloc o1).heap.size < ((w.alloc o1).alloc (.cells #[x, y, z, u, t] T)).heap.size := by simp
  have h := fun j => (hb.cell (p := ⟨w.heap.size + 1, j, none⟩) (by rw [e]; exact hlt)).trans (cell_new' (w.alloc o1) #[x, y, z, u, t] T _ e j)
  have g : ∀ j, w1.frozen? ⟨w.heap.size + 1, j, none⟩ = false := fun j => (hb.frozen (p := ⟨w.heap.size + 1, j, none⟩) (by rw [e]; exact hlt)).trans (by rw [e]; exact frozen_new _ _ _ j)
  exact ⟨Nat.lt_of_lt_of_le (by simp) hb.size, ⟨h 0, g 0⟩, ⟨h 1, g 1⟩, ⟨h 2, g 2⟩, ⟨h 3, g 3⟩, ⟨h 4, g 4⟩⟩
/-- The cells of a new block of one aggregate, later. -/
theorem val_cells (x : Sett) : x.val = .agg x.cells.toArray := rfl
set_option maxRecDepth 100000 in
set_option maxHeartbeats 2000000 in
theorem of_any (sv : Value) (l : List Sett) (d a : ByteArray) (w : World) (h : SettsAt w sv l) :
    Calls Try.prog 19 #[sv, .agg #[.string d, .string a]] w (LastPost l d a w) := by
  have HS := Lib.hid ((h.step ((Below.refl _ _).alloc (Nat.le_refl _) (.cells #[.string d, .string a] 25))).step ((Below.refl _ _).alloc (Nat.le_refl _) (.cells #[.string ⟨#[]⟩, .string ⟨#[]⟩, .string ⟨#[]⟩, .int .i64 0, .string ⟨#[]⟩] 40)))
  obtain ⟨sa, cap, rfl, hm, -⟩ := h
  go_enter Try.func19, Try.ntmps19
  go_wp2_with fail
  refine (last_any _ _ (.slice sa l.length cap) l d a _ HS.out).mono ?_
  rintro e w1 ⟨rfl, b1⟩
  have HB := Lib.hid (two_below b1)
  have hcc := five_later b1
  obtain ⟨hz, ⟨z0, f0⟩, ⟨z1, f1⟩, ⟨z2, f2⟩, ⟨z3, f3⟩, ⟨z4, f4⟩⟩ := hcc
  have HV := Lib.hid (show (sAt l (lI l d a)).val = (sAt l (lI l d a)).val from rfl)
  generalize hx : sAt l (lI l d a) = x at *
  have HX := Lib.hid hx
  generalize hs : (lI l d a).isSome = o at *
  have HO := Lib.hid hs
  clear b1 hx hs
  obtain ⟨xd, xa, xn, xt, xu⟩ := x
  unfold Sett.val
  go_wp2
  refine bodyPost_ret (v := .tuple #[Sett.val ⟨xd, xa, xn, xt, xu⟩, .bool o]) (by simp [results, Try.results19, go_sem, Sett.val, z0, z1, z2, z3, z4]) rfl (LastPost.mk (o := lI l d a) rfl (by rw [HX.out]) HO.out.symm ?_)
  exact five_set HB.out (by omega) _ _ _ _ _

/-- Two settings are equal. -/
def sS (x y : Sett) : Bool := sE x.dev y.dev && (sE x.attr y.attr && (sE x.name y.name && ((x.ten == y.ten) && sE x.unit y.unit)))
theorem sS_iff {x y : Sett} : sS x y = true ↔ x = y := by
  unfold sS
  rw [Bool.and_eq_true, Bool.and_eq_true, Bool.and_eq_true, Bool.and_eq_true, sE_iff, sE_iff, sE_iff, sE_iff, beq_iff_eq]
  obtain ⟨a, b, c, d, e⟩ := x
  obtain ⟨a', b', c', d', e'⟩ := y
  simp
/-- Two lists of settings are equal. -/
def eqL (la lb : List Sett) : Bool := (la.length == lb.length) && (List.range la.length).all fun i => sS (la.getD i zS) (lb.getD i zS)
theorem eqL_len {la lb : List Sett} (h : la.length ≠ lb.length) : eqL la lb = false := by
  unfold eqL
  have : (la.length == lb.length) = false := by simpa using h
  rw [this]; rfl
theorem eqL_no {la lb : List Sett} {k : Nat} (hk : k < la.length) (h : sS (la.getD k zS) (lb.getD k zS) = false) : eqL la lb = false := by
  unfold eqL
  have : ((List.range la.length).all fun i => sS (la.getD i zS) (lb.getD i zS)) = false := by
    rw [List.all_eq_false]
    exact ⟨k, by simpa using hk, by rw [h]; exact Bool.false_ne_true⟩
  rw [this, Bool.and_false]
theorem eqL_yes {la lb : List Sett} (hl : la.length = lb.length) (h : ∀ k, k < la.length → sS (la.getD k zS) (lb.getD k zS) = true) : eqL la lb = true := by
  unfold eqL
  rw [Bool.and_eq_true]
  refine ⟨by simpa using hl, ?_⟩
  rw [List.all_eq_true]
  intro k hk
  exact h k (by simpa using hk)
theorem sS_cases (x y : Sett) : (sS x y = false ∧ (x.dev.toList == y.dev.toList) = false) ∨ (sS x y = false ∧ (x.dev.toList == y.dev.toList) = true ∧ (x.attr.toList == y.attr.toList) = false) ∨
    (sS x y = false ∧ (x.dev.toList == y.dev.toList) = true ∧ (x.attr.toList == y.attr.toList) = true ∧ (x.name.toList == y.name.toList) = false) ∨
    (sS x y = false ∧ (x.dev.toList == y.dev.toList) = true ∧ (x.attr.toList == y.attr.toList) = true ∧ (x.name.toList == y.name.toList) = true ∧ (x.ten == y.ten) = false) ∨
    (sS x y = false ∧ (x.dev.toList == y.dev.toList) = true ∧ (x.attr.toList == y.attr.toList) = true ∧ (x.name.toList == y.name.toList) = true ∧ (x.ten == y.ten) = true ∧ (x.unit.toList == y.unit.toList) = false) ∨
    (sS x y = true ∧ (x.dev.toList == y.dev.toList) = true ∧ (x.attr.toList == y.attr.toList) = true ∧ (x.name.toList == y.name.toList) = true ∧ (x.ten == y.ten) = true ∧ (x.unit.toList == y.unit.toList) = true) := by
  unfold sS sE
  cases x.dev.toList == y.dev.toList <;> cases x.attr.toList == y.attr.toList <;> cases x.name.toList == y.name.toList <;> cases x.ten == y.ten <;> cases x.unit.toList == y.unit.toList <;> simp
set_option maxRecDepth 100000 in
set_option maxHeartbeats 4000000 in
theorem same_any (va vb : Value) (la lb : List Sett) (w : World) (ha : SettsAt w va la) (hb : SettsAt w vb lb) :
    Calls Try.prog 15 #[va, vb] w fun e w' => e = .returned (.bool (eqL la lb)) ∧ Below w.heap.size w w' := by
  obtain ⟨aa, ca, rfl, hma, hca⟩ := ha
  obtain ⟨ab, cb, rfl, hmb, hcb⟩ := hb
  unfold maxLen at hma hmb
  have HA := Lib.hid hca
  have HB := Lib.hid hcb
  clear hca hcb
  by_cases hl : la.length = lb.length
  · have q1 : ((la.length : Int) != (lb.length : Int)) = false := by simp; omega
    have HL := Lib.hid hl
    have hl1 : la.length ≤ lb.length := by omega
    clear hl
    go_enter Try.func15, Try.ntmps15
    go_wp2_with fail
    go_loopw [5] (fun i wr => ∃ k n : Nat, k ≤ la.length ∧ i = .int .i64 k ∧ wr = w.drewN n ∧ Hid (∀ j, j < k → sS (la.getD j zS) (lb.getD j zS) = true)) (fun i _ => la.length - (intOf i).toNat)
    case atStart => exact ⟨0, 0, by omega, rfl, rfl, fun j h => absurd h (by omega)⟩
    case round =>
      obtain ⟨k, n, hk, rfl, rfl, HS⟩ := hrel
      by_cases hlt : k < la.length
      · obtain ⟨b1, o1, rfl, hcs1⟩ := HA.out (by intro h; rw [h] at hlt; simp at hlt)
        obtain ⟨b2, o2, rfl, hcs2⟩ := HB.out (by intro h; rw [h] at hl1; simp at hl1; rw [hl1] at hlt; simp at hlt)
        obtain ⟨a0, a1, a2, a3, a4⟩ := hcs1 k _ (getD_of hlt)
        obtain ⟨c0, c1, c2, c3, c4⟩ := hcs2 k _ (getD_of (by omega))
        have hcase := sS_cases (la.getD k zS) (lb.getD k zS)
        have HN := Lib.hid (show sS (la.getD k zS) (lb.getD k zS) = false → eqL la lb = false from fun h => eqL_no hlt h)
        have HY := Lib.hid (show sS (la.getD k zS) (lb.getD k zS) = true → ∀ j, j < k + 1 → sS (la.getD j zS) (lb.getD j zS) = true from fun h j hj => by
          by_cases e : j = k
          · subst e; exact h
          · exact HS.out j (by omega))
        have hlt2 : k < lb.length := by omega
        generalize la.getD k zS = x at a0 a1 a2 a3 a4 hcase HN HY
        generalize lb.getD k zS = y at c0 c1 c2 c3 c4 hcase HN HY
        clear hcs1 hcs2
        rcases hcase with ⟨p, q2⟩ | ⟨p, q2, q3⟩ | ⟨p, q2, q3, q4⟩ | ⟨p, q2, q3, q4, q5⟩ | ⟨p, q2, q3, q4, q5, q6⟩ | ⟨p, q2, q3, q4, q5, q6⟩
        · have HF := Lib.hid (HN.out p)
          clear p HN HY
          go_wp2
          go_quiet (fail)
          go_wp2
          go_ret
          exact ⟨ret_bool HF.out.symm, (below_drewN' _ _ _).trans (below_drewN' _ _ _)⟩
        · have HF := Lib.hid (HN.out p)
          clear p HN HY
          go_wp2
          go_quiet (fail)
          go_wp2
          go_ret
          exact ⟨ret_bool HF.out.symm, (below_drewN' _ _ _).trans (below_drewN' _ _ _)⟩
        · have HF := Lib.hid (HN.out p)
          clear p HN HY
          go_wp2
          go_quiet (fail)
          go_wp2
          go_ret
          exact ⟨ret_bool HF.out.symm, (below_drewN' _ _ _).trans (below_drewN' _ _ _)⟩
        · have HF := Lib.hid (HN.out p)
          clear p HN HY
          go_wp2
          go_quiet (fail)
          go_wp2
          go_ret
          exact ⟨ret_bool HF.out.symm, (below_drewN' _ _ _).trans (below_drewN' _ _ _)⟩
        · have HF := Lib.hid (HN.out p)
          clear p HN HY
          go_wp2
          go_quiet (fail)
          go_wp2
          go_ret
          exact ⟨ret_bool HF.out.symm, (below_drewN' _ _ _).trans (below_drewN' _ _ _)⟩
        · have HF := Lib.hid (HY.out p)
          clear p HN HY
          go_wp2
          go_quiet (fail)
          go_wp2
          go_roundw
          case rel => exact ⟨k + 1, n + nq, by omega, by go_num, rfl, HF⟩
          case measure => simp [intOf]; omega
      · have HF := Lib.hid (eqL_yes HL.out fun j hj => HS.out j (by omega))
        go_wp2
        go_ret
        exact ⟨ret_bool HF.out.symm, below_drewN' _ _ _⟩
  · have q1 : ((la.length : Int) != (lb.length : Int)) = true := by simp; omega
    have HF := Lib.hid (eqL_len hl)
    clear hl
    go_enter Try.func15, Try.ntmps15
    go_wp2
    go_ret
    exact ⟨ret_bool HF.out.symm, Below.refl _ _⟩
end Go.Proofs.Ytloilkfloidnjaa
