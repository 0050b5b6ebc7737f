import Derived.BigQuiet
import Derived.BigRegion
import Derived.ChangeAlike
import Derived.Deep.QuietTactic
import Derived.Deep.Slices
import Derived.IntWalk
import Derived.Lib.Hide
import Derived.Lib.SmallJoins
import Derived.Maps.AppendAt
import Derived.OpenShut
import Derived.Outline
import Derived.OwnWalk
import Derived.ProofKit
import Derived.RegionTactic
import Derived.Test.YtolinnmhdclgpaaRows
import Derived.WalkKit
import Derived.WalkLawsBesides
import Derived.WalkSpells
namespace Go.Proofs.Ytolinnmhdclgpaa
open Go.RowKit

theorem ret_bool {a b : Bool} (h : a = b) : Ending.returned (.bool a) = .returned (.bool b) := by rw [h]
theorem keep1 {w w1 : World} {p : Addr} {v : Value} (hb : Below w.heap.size w w1) (h : w.cell? p = some v) : w1.cell? p = some v := (hb.cell (World.block_lt_of_cell? _ _ h)).trans h
theorem keep2 {w w1 w2 : World} (hb : Below w1.heap.size w1 w2) (h : Below w.heap.size w w1) : Below w.heap.size w w2 := h.trans (hb.mono h.size)
theorem below_drewN' (B : Nat) (W : World) (n : Nat) : Below B W (W.drewN n) := ⟨rfl, rfl, rfl, Nat.le_refl _, fun _ _ => rfl⟩
theorem below_drew (B : Nat) (W : World) : Below B W W.drew := ⟨rfl, rfl, rfl, Nat.le_refl _, fun _ _ => rfl⟩
theorem al (W : World) (o : Obj) : Below W.heap.size W (W.alloc o) := (Below.refl _ _).alloc (Nat.le_refl _) o
theorem al2 {w : World} {o1 o2 : Obj} : Below w.heap.size w ((w.alloc o1).alloc o2) := (al w o1).alloc (by simp) o2
theorem al3 {w : World} {o1 o2 o3 : Obj} : Below w.heap.size w (((w.alloc o1).alloc o2).alloc o3) := (al2).alloc (by simp; omega) o3
theorem cell_new' (w : World) (cs : Array Value) (t : TypeId) (n : Nat) (hn : n = w.heap.size) (j : Nat) : (w.alloc (.cells cs t)).cell? ⟨n, j, none⟩ = cs[j]? := by
  subst hn; simp
theorem frozen_new (w : World) (cs : Array Value) (t : TypeId) (n : Nat) (hn : n = w.heap.size) (j : Nat) : (w.alloc (.cells cs t)).frozen? ⟨n, j, none⟩ = false := by
  subst hn
  have := heap_alloc_new w (.cells cs t); simp only [World.frozen?, this]; simp
/-- The cells of a block that may be written. -/
def Cs (w : World) (n : Nat) (vs : Array Value) : Prop := (∀ j, j < vs.size → w.cell? ⟨n, j, none⟩ = vs[j]?) ∧ (∀ j, j < vs.size → w.frozen? ⟨n, j, none⟩ = false) ∧ n < w.heap.size
theorem Cs.new (w : World) (n : Nat) (vs : Array Value) (t : TypeId) (hn : n = w.heap.size) : Cs (w.alloc (.cells vs t)) n vs :=
  ⟨fun j _ => cell_new' w vs t n hn j, fun j _ => frozen_new w vs t n hn j, by subst hn; simp⟩
theorem Cs.step {w w1 : World} {n : Nat} {vs : Array Value} (h : Cs w n vs) (hb : Below w.heap.size w w1) : Cs w1 n vs :=
  ⟨fun j hj => (hb.cell (p := ⟨n, j, none⟩) h.2.2).trans (h.1 j hj), fun j hj => (hb.frozen (p := ⟨n, j, none⟩) h.2.2).trans (h.2.1 j hj), Nat.lt_of_lt_of_le h.2.2 hb.size⟩
theorem Cs.alloc {w : World} {n : Nat} {vs : Array Value} (h : Cs w n vs) (o : Obj) : Cs (w.alloc o) n vs := h.step (al w o)
theorem Cs.c {w : World} {n : Nat} {vs : Array Value} (h : Cs w n vs) (j : Nat) {v : Value} (hv : vs[j]? = some v) : w.cell? ⟨n, j, none⟩ = some v := (h.1 j (Array.getElem?_eq_some_iff.1 hv).1).trans hv
theorem Cs.f {w : World} {n : Nat} {vs : Array Value} (h : Cs w n vs) (j : Nat) (hj : j < vs.size) : w.frozen? ⟨n, j, none⟩ = false := h.2.1 j hj

/-- A list of ints lies behind a slice. -/
def IntsAt (w : World) (v : Value) (l : List Int) : Prop :=
  ∃ a cap, v = .slice a l.length cap ∧ l.length ≤ maxLen ∧ (l ≠ [] → ∃ b off, a = some ⟨b, off, none⟩ ∧ ∀ (i : Nat) (x : Int), l[i]? = some x → w.cell? ⟨b, off + i, none⟩ = some (.int .i64 x))
theorem IntsAt.step {w w1 : World} {v : Value} {l : List Int} (h : IntsAt w v l) (hb : Below w.heap.size w w1) : IntsAt w1 v l := by
  obtain ⟨a, cap, hv, hm, hc⟩ := h
  refine ⟨a, cap, hv, hm, fun hl => ?_⟩
  obtain ⟨b, off, ha, hx⟩ := hc hl
  exact ⟨b, off, ha, fun i x h => keep1 hb (hx i x h)⟩
theorem IntsAt.drewN {w : World} {v : Value} {l : List Int} (h : IntsAt w v l) (n : Nat) : IntsAt (w.drewN n) v l := h.step (below_drewN' _ _ _)
theorem ints_nil (w : World) : IntsAt w (.slice none 0 0) [] := ⟨none, 0, rfl, by simp, fun h => absurd rfl h⟩
theorem getD_of {l : List Int} {k : Nat} (h : k < l.length) : l[k]? = some (l.getD k 0) := by
  simp [h]
theorem ints_of_row {w : World} {base : Nat} {t : TypeId} {v : Value} {xs : List Int} (h : w.ownsRow base t 1 v xs.length (xs.map (Value.int .i64))) : IntsAt w v xs := by
  rcases h.2 with ⟨rfl, hn⟩ | ⟨g, cap, cur, rfl, hbg, hg, hnc, hcm, hcur, htake⟩
  · have : xs = [] := by simpa using hn
    subst this
    exact ints_nil _
  · have hc := h.cells (g := g) rfl
    refine ⟨_, cap, rfl, by omega, fun _ => ⟨g, 0, rfl, fun i x hi => ?_⟩⟩
    have := hc i (.int .i64 x) (by rw [List.getElem?_map, hi]; rfl)
    rwa [Go.WideShapes.add_plain] at this
theorem below_own {w wr w1 : World} {t : TypeId} {v : Value} {o : Obj} {n : Nat} {xs : List Value} {B s : Nat} (hBw : B ≤ w.heap.size) (hB : Below B w wr) (hrow : wr.ownsRow B t s v n xs) (hg : (wr.alloc o).grownBy w1 v.ownBlock) : Below B w w1 := by
  have h2 := hB.size
  refine ((hB.alloc (Nat.le_trans hBw h2) o).grown hg (by simp; omega) fun j ej => ?_)
  rcases hrow.2 with ⟨rfl, _⟩ | ⟨g, cap, cur, rfl, hb, _, _⟩
  · simp [Value.ownBlock] at ej
  · obtain rfl : g = j := by simpa [Value.ownBlock] using ej
    exact hb
open Go.RowKit

theorem Cs.other {w : World} {n b : Nat} {vs : Array Value} (h : Cs w n vs) (hne : n ≠ b) (j : Nat) (v : Value) : Cs (w.setCell ⟨b, j, none⟩ v) n vs := by
  have hb := Below.heap_setCell w ⟨b, j, none⟩ v n hne
  exact ⟨fun i hi => (World.cell?_of_block (a := ⟨n, i, none⟩) hb).trans (h.1 i hi), fun i hi => (World.frozen?_of_block (a := ⟨n, i, none⟩) hb).trans (h.2.1 i hi), by simpa using h.2.2⟩
theorem Cs.set {w : World} {b : Nat} {vs : Array Value} (h : Cs w b vs) (j : Nat) (hj : j < vs.size) (v : Value) {vs' : Array Value} (hvs : vs.setIfInBounds j v = vs') : Cs (w.setCell ⟨b, j, none⟩ v) b vs' := by
  subst hvs
  have hsz : (vs.setIfInBounds j v).size = vs.size := by simp
  refine ⟨fun i hi => ?_, fun i hi => ?_, by simpa using h.2.2⟩
  · rw [hsz] at hi
    by_cases e : j = i
    · subst e
      rw [World.cell?_setCell_same _ _ _ (u := vs[j]) ((h.1 j hj).trans (Array.getElem?_eq_getElem hj))]
      simp [hj]
    · rw [World.cell?_setCell_other _ _ _ _ (by intro h2; injection h2 with _ h3; exact e h3), h.1 i hi]
      simp [e]
  · rw [hsz] at hi
    rw [World.frozen?_setCell]; exact h.2.1 i hi
open Go.RowKit

def BosAt (w : World) (v : Value) (l : List Bool) : Prop :=
  ∃ a cap, v = .slice a l.length cap ∧ l.length ≤ maxLen ∧ (l ≠ [] → ∃ b off, a = some ⟨b, off, none⟩ ∧ ∀ (i : Nat) (x : Bool), l[i]? = some x → w.cell? ⟨b, off + i, none⟩ = some (.bool x))
theorem BosAt.step {w w1 : World} {v : Value} {l : List Bool} (h : BosAt w v l) (hb : Below w.heap.size w w1) : BosAt w1 v l := by
  obtain ⟨a, cap, hv, hm, hc⟩ := h
  refine ⟨a, cap, hv, hm, fun hl => ?_⟩
  obtain ⟨b, off, ha, hx⟩ := hc hl
  exact ⟨b, off, ha, fun i x h => keep1 hb (hx i x h)⟩
open Go.RowKit

theorem in_info : (Try.prog.info? 3).map (fun i => (i.zero, i.size, i.bytes)) = some (some (.int .i64 0), 1, 8) := by kernel_rfl
theorem row_step {w w1 : World} {base e s : Nat} {v : Value} {n : Nat} {xs : List Value} (h : w.ownsRow base e s v n xs) (hb : Below w.heap.size w w1) : w1.ownsRow base e s v n xs := by
  refine ⟨h.1, ?_⟩
  rcases h.2 with h0 | ⟨g, cap, cur, h1, h2, h3, h4⟩
  · exact .inl h0
  · exact .inr ⟨g, cap, cur, h1, h2, (hb.block g (Array.getElem?_eq_some_iff.1 h3).1).trans h3, h4⟩
theorem row_slice {w : World} {base e s : Nat} {v : Value} {n : Nat} {xs : List Value} (h : w.ownsRow base e s v n xs) : ∃ a c, v = .slice a n c := by
  rcases h.2 with ⟨rfl, rfl⟩ | ⟨g, cap, cur, rfl, -⟩
  · exact ⟨none, 0, rfl⟩
  · exact ⟨_, _, rfl⟩
open Go.RowKit

def inr (n lo hi : Int) : Bool := decide (lo ≤ n) && decide (n ≤ hi)
theorem inr_iff {n lo hi : Int} : inr n lo hi = true ↔ lo ≤ n ∧ n ≤ hi := by unfold inr; simp
open Go.RowKit

/-- An order. -/
structure Od where
  a : Int
  b : Int
  c : Int
  d : Int
deriving DecidableEq
def zO : Od := ⟨0, 0, 0, 0⟩
def Od.cells (x : Od) : List Value := [.int .i64 x.a, .int .i64 x.b, .int .i64 x.c, .int .i64 x.d]
def ocs (l : List Od) : List Value := l.flatMap Od.cells
/-- A list of orders behind a slice. -/
def OdsAt (w : World) (v : Value) (l : List Od) : Prop :=
  ∃ a cap, v = .slice a l.length cap ∧ l.length ≤ cap ∧ l.length ≤ maxLen ∧ (l ≠ [] → ∃ b off, a = some ⟨b, off, none⟩ ∧ ∀ (i : Nat) (x : Od), l[i]? = some x →
    w.cell? ⟨b, off + i * 4, none⟩ = some (.int .i64 x.a) ∧ w.cell? ⟨b, off + i * 4 + 1, none⟩ = some (.int .i64 x.b) ∧ w.cell? ⟨b, off + i * 4 + 2, none⟩ = some (.int .i64 x.c) ∧ w.cell? ⟨b, off + i * 4 + 3, none⟩ = some (.int .i64 x.d))
theorem OdsAt.step {w w1 : World} {v : Value} {l : List Od} (h : OdsAt w v l) (hb : Below w.heap.size w w1) : OdsAt w1 v l := by
  obtain ⟨a, cap, hv, h1, hm, hc⟩ := h
  refine ⟨a, cap, hv, h1, hm, fun hl => ?_⟩
  obtain ⟨b, off, ha, hx⟩ := hc hl
  refine ⟨b, off, ha, fun i x h => ?_⟩
  obtain ⟨q0, q1, q2, q3⟩ := hx i x h
  exact ⟨keep1 hb q0, keep1 hb q1, keep1 hb q2, keep1 hb q3⟩
theorem ods_nil (w : World) : OdsAt w (.slice none 0 0) [] := ⟨none, 0, rfl, by simp, by simp, fun h => absurd rfl h⟩
theorem od_get {l : List Od} {k : Nat} (h : k < l.length) : l[k]? = some (l.getD k zO) := by simp [h]
theorem ocs_app (l m : List Od) : ocs (l ++ m) = ocs l ++ ocs m := by simp [ocs]
theorem ocs_one (x : Od) : ocs [x] = x.cells := by simp [ocs]
theorem ocs_len (l : List Od) : (ocs l).length = l.length * 4 := by
  induction l with
  | nil => rfl
  | cons y l ih =>
    have hs : ocs (y :: l) = y.cells ++ ocs l := by simp [ocs]
    rw [hs, List.length_append, ih, List.length_cons]
    simp [Od.cells]; omega
theorem ocs_get (l : List Od) : ∀ (i : Nat) (x : Od), l[i]? = some x → ∀ j, j < 4 → (ocs l)[i * 4 + j]? = x.cells[j]? := by
  induction l with
  | nil => intro i x h; simp at h
  | cons y l ih =>
    intro i x h j hj
    have hs : ocs (y :: l) = y.cells ++ ocs l := by simp [ocs]
    rw [hs]
    cases i with
    | zero =>
      simp at h; subst h
      rw [List.getElem?_append_left (by simp [Od.cells]; omega)]
      simp
    | succ i =>
      rw [List.getElem?_append_right (by simp [Od.cells]; omega)]
      have := ih i x (by simpa using h) j hj
      rw [← this]
      congr 1
      simp [Od.cells]; omega
theorem ocs_one' (l : List Od) : ∀ u ∈ ocs l, u.oneCell' = true := by
  intro u hu
  unfold ocs at hu
  obtain ⟨x, -, hx⟩ := List.mem_flatMap.1 hu
  simp [Od.cells] at hx
  rcases hx with rfl | rfl | rfl | rfl <;> rfl
theorem ods_of_row {w : World} {base n : Nat} {v : Value} {l : List Od} (hn : n = l.length) (h : w.ownsRow base 27 4 v n (ocs l)) : OdsAt w v l := by
  subst hn
  have hc := fun g (hg : v.ownBlock = some g) => h.cells hg
  rcases h.2 with ⟨rfl, h0⟩ | ⟨g, cap, cur, rfl, h1, h2, h3, h4, -⟩
  · have : l = [] := List.length_eq_zero_iff.1 h0
    subst this
    exact ods_nil _
  · refine ⟨some ⟨g, 0, none⟩, cap, rfl, h3, by omega, fun _ => ⟨g, 0, rfl, fun i x hi => ?_⟩⟩
    have hj := fun j (hj : j < 4) u (hu : x.cells[j]? = some u) => hc g rfl (i * 4 + j) u ((ocs_get l i x hi j hj).trans hu)
    simp only [Go.WideShapes.add_plain] at hj
    exact ⟨hj 0 (by omega) _ rfl, hj 1 (by omega) _ rfl, hj 2 (by omega) _ rfl, hj 3 (by omega) _ rfl⟩
theorem od_cells {w : World} {a : Option Addr} {n cap : Nat} {l : List Od} (h : OdsAt w (.slice a n cap) l) (ad : Addr) (ha : a = some ad) : ∀ j u, (ocs l)[j]? = some u → w.cell? (ad.add j) = some u := by
  intro j u hu
  obtain ⟨a', cap', he, -, -, hc⟩ := h
  obtain ⟨rfl, -, rfl⟩ : a = a' ∧ n = l.length ∧ cap = cap' := by simpa using he
  have hj : j < (ocs l).length := (List.getElem?_eq_some_iff.1 hu).1
  rw [ocs_len] at hj
  have hi : j / 4 < l.length := by omega
  obtain ⟨b', off', ha', hx⟩ := hc (by intro e; rw [e] at hi; simp at hi)
  rw [ha] at ha'
  obtain rfl : ad = ⟨b', off', none⟩ := by simpa using ha'
  rw [Go.WideShapes.add_plain]
  have hg := ocs_get l (j / 4) _ (od_get hi) (j % 4) (by omega)
  rw [show j / 4 * 4 + j % 4 = j by omega, hu] at hg
  obtain ⟨q0, q1, q2, q3⟩ := hx (j / 4) _ (od_get hi)
  have e : off' + j = off' + j / 4 * 4 + j % 4 := by omega
  rw [e]
  have h4 : j % 4 < 4 := by omega
  generalize j % 4 = m at *
  match m, h4 with
  | 0, _ => simp [Od.cells] at hg; rw [hg]; exact q0
  | 1, _ => simp [Od.cells] at hg; rw [hg]; exact q1
  | 2, _ => simp [Od.cells] at hg; rw [hg]; exact q2
  | 3, _ => simp [Od.cells] at hg; rw [hg]; exact q3
theorem od_info : (Try.prog.info? 27).map (fun i => (i.zero, i.size, i.bytes)) = some (some (.agg #[.int .i64 0, .int .i64 0, .int .i64 0, .int .i64 0]), 4, 32) := by kernel_rfl
set_option maxRecDepth 100000 in
set_option maxHeartbeats 8000000 in
theorem od_clone (v : Value) (l : List Od) (w : World) (h : OdsAt w v l) (h9 : l.length ≤ 100000) :
    Calls Try.prog 57 #[v] w fun e w' => ∃ u, e = .returned u ∧ w'.ownsRow w.heap.size 27 4 u l.length (ocs l) ∧ Below w.heap.size w w' := by
  have H := Lib.hid h
  obtain ⟨a, cap, rfl, -, hm, hc⟩ := h
  obtain ⟨i0, hi, hz0, hz1, hz2⟩ := info_parts od_info
  have q22 : ∀ (w : World) (a : Option Addr) (n c n' c' : Nat), (binOp .eql 23 (.slice a n c) (.slice none n' c')).run Try.prog w = .ok (.bool a.isNone) w := fun w a n c n' c' => Lib.run_eql_slice_nil w _ _ a n c n' c' Try.underlying23
  cases a with
  | none =>
    have hl : l = [] := by
      cases l with
      | nil => rfl
      | cons x l => obtain ⟨b, off, e, -⟩ := hc (by simp); cases e
    subst hl
    clear H hc hm h9
    go_enter Try.func57, Try.ntmps57
    go_wp2
    go_ret
    exact ⟨_, rfl, World.ownsRow_nil _ _ _ _, Below.refl _ _⟩
  | some ad =>
    have HN := Lib.hid (od_cells (H.out.step (al w (.cells #[] 27))) ad rfl)
    have c1 : 0 + l.length ≤ maxLen := by unfold maxLen; omega
    have c2 : (0 + l.length) * 32 ≤ 140737488355328 := by omega
    have HR := Lib.hid (show (w.alloc (.cells #[] 27)).ownsRow w.heap.size 27 4 (.slice (some ⟨w.heap.size, 0, none⟩) 0 0) 0 [] from
      ⟨rfl, .inr ⟨w.heap.size, 0, _, rfl, Nat.le_refl _, heap_alloc_new _ _, by omega, by unfold maxLen; omega, rfl, rfl⟩⟩)
    clear hc hm
    go_enter Try.func57, Try.ntmps57
    go_wp2_with (at_builtin; refine wpList_append_own _ rfl _ _ 23 rfl w.heap.size 27 i0 _ 4 32 Try.underlying23 hi hz0 hz1 hz2 rfl (by decide) _ _ _ rfl HR.out ad l.length cap (ocs l) rfl (ocs_len l) HN.out (ocs_one' l) c1 c2 (by simp) ?_; intro v' w1 hown hgrow _; have HO := Lib.hid hown; have HG := Lib.hid hgrow; clear hown hgrow)
    have HB := Lib.hid ((al w (.cells #[] 27)).grown HG.out (by simp) (fun k e => by cases e; exact Nat.le_refl _))
    have HO2 := Lib.hid (show w1.ownsRow w.heap.size 27 4 v' l.length (ocs l) by have := HO.out; rw [Nat.zero_add] at this; exact this)
    clear HO
    go_wp2
    go_ret
    exact ⟨_, rfl, HO2.out, HB.out⟩
open Go.RowKit

/-- A function of an order that answers 'p', in every later world. -/
def Fits (n : Nat) (caps : Array Value) (p : Od → Bool) (w : World) : Prop :=
  ∀ (x : Od) (w1 : World), Below w.heap.size w w1 → Calls Try.prog n (#[.agg #[.int .i64 x.a, .int .i64 x.b, .int .i64 x.c, .int .i64 x.d]] ++ caps) w1 fun e w2 => e = .returned (.bool (p x)) ∧ Below w1.heap.size w1 w2
theorem Fits.step {n : Nat} {caps : Array Value} {p : Od → Bool} {w w1 : World} (h : Fits n caps p w) (hb : Below w.heap.size w w1) : Fits n caps p w1 :=
  fun x w2 h2 => h x w2 (keep2 h2 hb)
/-- The first that fits. -/
def fsI (p : Od → Bool) : List Od → Nat → Option Nat
  | [], _ => none
  | x :: L, k => if p x then some k else fsI p L (k + 1)
theorem fsI_none {p : Od → Bool} {L : List Od} {k : Nat} : fsI p L k = none ↔ ∀ j, j < L.length → p (L.getD j zO) = false := by
  induction L generalizing k with
  | nil => simp [fsI]
  | cons x L ih =>
    unfold fsI
    by_cases h : p x = true
    · rw [if_pos h]
      constructor
      · intro e; cases e
      · intro e; have := e 0 (by simp); simp [h] at this
    · rw [if_neg h, ih]
      constructor
      · intro e j hj
        cases j with
        | zero => simpa using h
        | succ j => exact e j (by simpa using hj)
      · intro e j hj
        exact e (j + 1) (by simpa using hj)
theorem fsI_some {p : Od → Bool} {L : List Od} {k i : Nat} : fsI p L k = some i ↔ k ≤ i ∧ i - k < L.length ∧ p (L.getD (i - k) zO) = true ∧ ∀ j, j < i - k → p (L.getD j zO) = false := by
  induction L generalizing k with
  | nil => simp [fsI]
  | cons x L ih =>
    unfold fsI
    by_cases h : p x = true
    · rw [if_pos h]
      constructor
      · intro e; cases e
        exact ⟨Nat.le_refl _, by simp, by simpa using h, fun j hj => by omega⟩
      · rintro ⟨h1, h2, h3, h4⟩
        by_cases e : i = k
        · rw [e]
        · have := h4 0 (by omega); simp [h] at this
    · rw [if_neg h, ih]
      constructor
      · rintro ⟨h1, h2, h3, h4⟩
        have e : i - k = (i - (k + 1)) + 1 := by omega
        refine ⟨by omega, by rw [e]; simpa using h2, by rw [e]; simpa using h3, fun j hj => ?_⟩
        cases j with
        | zero => simpa using h
        | succ j => exact h4 j (by omega)
      · rintro ⟨h1, h2, h3, h4⟩
        have hk : i ≠ k := by
          intro e; subst e
          rw [Nat.sub_self] at h3
          exact h h3
        have e : i - k = (i - (k + 1)) + 1 := by omega
        refine ⟨by omega, by rw [e] at h2; simpa using h2, by rw [e] at h3; simpa using h3, fun j hj => ?_⟩
        exact h4 (j + 1) (by omega)
theorem fsI_any {p : Od → Bool} {L : List Od} {k : Nat} : (fsI p L k).isSome = L.any p := by
  induction L generalizing k with
  | nil => rfl
  | cons x L ih =>
    unfold fsI
    by_cases h : p x = true
    · simp [h]
    · rw [if_neg h, ih]; simp [h]
/-- Its place, or -1. -/
def fsP (p : Od → Bool) (L : List Od) : Int := match fsI p L 0 with
  | some i => i
  | none => -1
theorem fsP_ge {p : Od → Bool} {L : List Od} : decide (0 ≤ fsP p L) = L.any p := by
  rw [← fsI_any (k := 0)]
  unfold fsP
  cases fsI p L 0 <;> simp
set_option maxRecDepth 100000 in
set_option maxHeartbeats 8000000 in
theorem index_any (v : Value) (L : List Od) (n : Nat) (caps : Array Value) (p : Od → Bool) (w : World) (h : OdsAt w v L) (hf : Fits n caps p w) (heg : ∀ args w, (callFunc n args).run Try.prog w = .ok (.enter n args) w) :
    Calls Try.prog 58 #[v, .func (.func n) #[] caps] w fun e w' => e = .returned (.int .i64 (fsP p L)) ∧ Below w.heap.size w w' := by
  have HL := Lib.hid h
  have HF := Lib.hid hf
  obtain ⟨sa, sc, rfl, -, hm, -⟩ := h
  unfold maxLen at hm
  clear hf
  go_enter Try.func58, Try.ntmps58
  go_wp2_with fail
  go_loopw [8] (fun iv wr => ∃ k : Nat, k ≤ L.length ∧ iv = .int .i64 k ∧ Hid (∀ j, j < k → p (L.getD j zO) = false) ∧ Hid (Below w.heap.size w wr)) (fun iv _ => L.length - (intOf iv).toNat)
  case atStart => exact ⟨0, by omega, rfl, Lib.hid (fun j h => absurd h (by omega)), Lib.hid (Below.refl _ _)⟩
  case round =>
    obtain ⟨k, hk, rfl, HN, HW⟩ := hrel
    by_cases hlt : k < L.length
    · obtain ⟨a1, c1, hv1, -, -, hcs1⟩ := HL.out.step HW.out
      obtain ⟨rfl, rfl⟩ : sa = a1 ∧ sc = c1 := by simpa using hv1
      obtain ⟨b1, o1, rfl, hx1⟩ := hcs1 (by intro e; rw [e] at hlt; simp at hlt)
      obtain ⟨y0, y1, y2, y3⟩ := hx1 k _ (od_get hlt)
      have yz : b1 < wr.heap.size := World.block_lt_of_cell? _ _ y0
      have t1 : (k : Int) < (L.length : Int) := by omega
      have HX := Lib.hid (show (L.getD k zO) = L.getD k zO from rfl)
      clear hcs1 hx1 hv1
      obtain ⟨x, hx⟩ : ∃ x, L.getD k zO = x := ⟨_, rfl⟩
      rw [hx] at y0 y1 y2 y3
      have HXE := Lib.hid hx
      clear hx HX
      cases he : p x with
      | true =>
        have HP := Lib.hid (show fsP p L = k by
          unfold fsP
          rw [fsI_some.2 ⟨Nat.zero_le k, by simpa using hlt, by rw [Nat.sub_zero, HXE.out]; exact he, fun j hj => HN.out j (by omega)⟩])
        have HD := Lib.hid he
        clear he HN
        go_wp2_with fail
        refine (HF.out x _ HW.out).mono ?_
        rintro e w2 ⟨rfl, b2⟩
        have HW2 := Lib.hid (keep2 b2 HW.out)
        clear b2 y0 y1 y2 y3 yz
        rw [HD.out]
        go_wp2
        exact bodyPost_ret (v := .int .i64 k) (by simp [results, Try.results58, go_sem]) rfl ⟨by rw [HP.out], HW2.out⟩
      | false =>
        have HN2 := Lib.hid (show ∀ j, j < k + 1 → p (L.getD j zO) = false from fun j h => by
          by_cases e : j = k
          · subst e; rw [HXE.out]; exact he
          · exact HN.out j (by omega))
        have HD := Lib.hid he
        clear he HN
        go_wp2_with fail
        refine (HF.out x _ HW.out).mono ?_
        rintro e w2 ⟨rfl, b2⟩
        have HW2 := Lib.hid (keep2 b2 HW.out)
        clear b2 y0 y1 y2 y3 yz
        rw [HD.out]
        go_wp2
        go_roundw
        case rel => exact ⟨k + 1, hlt, by go_num, HN2, HW2⟩
        case measure => simp [intOf]; omega
    · have HP := Lib.hid (show fsP p L = -1 by
        unfold fsP
        rw [fsI_none.2 fun j hj => HN.out j (by omega)])
      clear HN
      go_wp2
      exact bodyPost_ret (v := .int .i64 (-1)) (by simp [results, Try.results58, go_sem]) rfl ⟨by rw [HP.out], HW.out⟩
open Go.RowKit

theorem cell_four_new (W : World) (a b c d : Value) (T : TypeId) (n : Nat) (hn : n = W.heap.size) : ∀ j u, [a, b, c, d][j]? = some u → (W.alloc (.cells #[a, b, c, d] T)).cell? ((⟨n, 0, none⟩ : Addr).add j) = some u := by
  subst hn
  intro j u hu
  rw [Go.WideShapes.add_plain, World.cell?_alloc_new]
  simpa using hu
set_option maxRecDepth 100000 in
set_option maxHeartbeats 8000000 in
theorem contains_f (v : Value) (L : List Od) (n : Nat) (caps : Array Value) (p : Od → Bool) (w : World) (h : OdsAt w v L) (hf : Fits n caps p w) (heg : ∀ args w, (callFunc n args).run Try.prog w = .ok (.enter n args) w) :
    Calls Try.prog 53 #[v, .func (.func n) #[] caps] w fun e w' => e = .returned (.bool (L.any p)) ∧ Below w.heap.size w w' := by
  have HL := Lib.hid h
  have HF := Lib.hid hf
  have HE := Lib.hid heg
  have HP := Lib.hid (fsP_ge (p := p) (L := L))
  clear hf h heg
  go_enter Try.func53, Try.ntmps53
  go_wp2_with fail
  refine (index_any v L n caps p _ HL.out HF.out HE.out).mono ?_
  rintro e w2 ⟨rfl, b2⟩
  have HB := Lib.hid b2
  clear b2
  go_wp2
  go_ret
  exact ⟨by rw [← HP.out]; rfl, HB.out⟩
theorem flt_step (p : Od → Bool) {L : List Od} {k : Nat} (h : k < L.length) : (L.take (k + 1)).filter p = (L.take k).filter p ++ (if p (L.getD k zO) = true then [L.getD k zO] else []) := by
  have e : L.take (k + 1) = L.take k ++ [L.getD k zO] := by rw [List.take_add_one, od_get h]; rfl
  rw [e, List.filter_append]
  by_cases hp : p (L.getD k zO) = true
  · rw [if_pos hp, List.filter_cons_of_pos hp]; rfl
  · rw [if_neg hp, List.filter_cons_of_neg hp]; rfl
theorem flt_len (p : Od → Bool) (L : List Od) (k : Nat) : ((L.take k).filter p).length ≤ L.length := Nat.le_trans (List.length_filter_le _ _) (by rw [List.length_take]; omega)
set_option maxRecDepth 100000 in
set_option maxHeartbeats 8000000 in
theorem those_any (v : Value) (L : List Od) (n : Nat) (caps : Array Value) (p : Od → Bool) (w : World) (h : OdsAt w v L) (hf : Fits n caps p w) (h9 : L.length ≤ 100000) (heg : ∀ args w, (callFunc n args).run Try.prog w = .ok (.enter n args) w) :
    Calls Try.prog 61 #[v, .func (.func n) #[] caps] w fun e w' => ∃ u, e = .returned u ∧ w'.ownsRow w.heap.size 27 4 u (L.filter p).length (ocs (L.filter p)) ∧ Below w.heap.size w w' := by
  have HL := Lib.hid h
  have HF := Lib.hid hf
  obtain ⟨sa, sc, rfl, -, hm, -⟩ := h
  unfold maxLen at hm
  clear hf
  obtain ⟨i0, hi, hz0, hz1, hz2⟩ := info_parts od_info
  go_enter Try.func61, Try.ntmps61
  go_wp2_with fail
  go_loopw [5, 10] (fun v i wr => ∃ k : Nat, k ≤ L.length ∧ i = .int .i64 k ∧ Hid (wr.ownsRow w.heap.size 27 4 v ((L.take k).filter p).length (ocs ((L.take k).filter p))) ∧ Hid (Below w.heap.size w wr)) (fun _ i _ => L.length - (intOf i).toNat)
  case atStart => exact ⟨0, by omega, rfl, Lib.hid (World.ownsRow_nil w w.heap.size 27 4), Lib.hid (Below.refl _ _)⟩
  case round =>
    obtain ⟨k, hk, rfl, HR, HB⟩ := hrel
    have hsz := HB.out.size
    by_cases hlt : k < L.length
    · obtain ⟨a1, c1, hv1, -, -, hcs1⟩ := HL.out.step HB.out
      obtain ⟨rfl, rfl⟩ : sa = a1 ∧ sc = c1 := by simpa using hv1
      obtain ⟨b1, o1, rfl, hx1⟩ := hcs1 (by intro e; rw [e] at hlt; simp at hlt)
      obtain ⟨y0, y1, y2, y3⟩ := hx1 k _ (od_get hlt)
      have yz : b1 < wr.heap.size := World.block_lt_of_cell? _ _ y0
      have t1 : (k : Int) < (L.length : Int) := by omega
      have HT := Lib.hid (flt_step p hlt)
      have HY := Lib.hid (flt_len p L k)
      clear hcs1 hx1 hv1
      generalize L.getD k zO = x at *
      have HO := Lib.hid (Cs.new wr wr.heap.size #[.int .i64 x.a, .int .i64 x.b, .int .i64 x.c, .int .i64 x.d] 27 rfl)
      have HB1 := Lib.hid (HB.out.alloc hsz (.cells #[.int .i64 x.a, .int .i64 x.b, .int .i64 x.c, .int .i64 x.d] 27))
      have HR1 := Lib.hid (HR.out.alloc (.cells #[.int .i64 x.a, .int .i64 x.b, .int .i64 x.c, .int .i64 x.d] 27))
      have o0 := HO.out.c 0 rfl
      have o1 := HO.out.c 1 rfl
      have o2 := HO.out.c 2 rfl
      have o3 := HO.out.c 3 rfl
      have oz := HO.out.2.2
      clear HR
      go_wp2_with fail
      refine (HF.out x _ HB1.out).mono ?_
      rintro e w2 ⟨rfl, b2⟩
      have HO2 := Lib.hid (HO.out.step b2)
      have HB2 := Lib.hid (keep2 b2 HB1.out)
      have HR2 := Lib.hid (row_step HR1.out b2)
      clear b2 y0 y1 y2 y3 yz o0 o1 o2 o3 oz HO HB1 HR1
      have o0 := HO2.out.c 0 rfl
      have o1 := HO2.out.c 1 rfl
      have o2 := HO2.out.c 2 rfl
      have o3 := HO2.out.c 3 rfl
      have oz := HO2.out.2.2
      have hsz2 := HB2.out.size
      cases he : p x with
      | false =>
        rw [he] at HT
        clear he
        go_wp2
        go_roundw
        case rel => exact ⟨k + 1, by omega, by go_num, by rw [HT.out]; simpa using HR2, HB2⟩
        case measure => simp [intOf]; omega
      | true =>
        rw [he] at HT
        clear he
        have HY2 := HY.out
        go_wp2_with (at_builtin; refine wpList_append_own _ rfl _ _ 23 rfl w.heap.size 27 i0 _ 4 32 Try.underlying23 hi hz0 hz1 hz2 rfl (by decide) _ _ _ rfl (HR2.out.alloc _) ⟨w2.heap.size, 0, none⟩ 1 1 [.int .i64 x.a, .int .i64 x.b, .int .i64 x.c, .int .i64 x.d] rfl rfl (cell_four_new _ _ _ _ _ _ _ (by simp)) (by simp [Value.oneCell']) (by unfold maxLen; omega) (by omega) (by simp; omega) ?_; intro v' w1 hown hgrow _; have HR3 := Lib.hid hown; have HB3 := Lib.hid (below_own (Nat.le_refl _) HB2.out HR2.out hgrow); clear hown hgrow)
        go_roundw
        case rel => exact ⟨k + 1, by omega, by go_num, by rw [HT.out]; simp only [if_true, List.length_append, ocs_app, ocs_one]; exact HR3, HB3⟩
        case measure => simp [intOf]; omega
    · obtain rfl : k = L.length := by omega
      have HQ := Lib.hid (show wr.ownsRow w.heap.size 27 4 _ (L.filter p).length (ocs (L.filter p)) by have h := HR.out; rw [List.take_length] at h; exact h)
      go_wp2
      go_ret
      exact ⟨_, rfl, HQ.out, HB.out⟩
open Go.RowKit

/-- A settled value. -/
def stB (x : Od) : Bool := decide (x.c = -1)
set_option maxRecDepth 100000 in
set_option maxHeartbeats 8000000 in
theorem within_any (n lo hi : Int) (w : World) : Calls Try.prog 48 #[.int .i64 n, .int .i64 lo, .int .i64 hi] w fun e w' => e = .returned (.bool (inr n lo hi)) ∧ Below w.heap.size w w' := by
  unfold inr
  by_cases h1 : lo ≤ n
  · go_enter Try.func48, Try.ntmps48
    go_wp2
    go_ret
    exact ⟨by rw [decide_eq_true h1]; rfl, by first | exact Below.refl _ _ | exact below_drew _ _⟩
  · go_enter Try.func48, Try.ntmps48
    go_wp2
    go_ret
    exact ⟨by rw [decide_eq_false (show ¬ lo ≤ n by omega)]; rfl, by first | exact Below.refl _ _ | exact below_drew _ _⟩
set_option maxRecDepth 100000 in
set_option maxHeartbeats 8000000 in
theorem settled_any (x : Od) (w : World) : Calls Try.prog 60 #[.agg #[.int .i64 x.a, .int .i64 x.b, .int .i64 x.c, .int .i64 x.d]] w fun e w' => e = .returned (.bool (stB x)) ∧ Below w.heap.size w w' := by
  have HB := Lib.hid (al w (.cells #[.int .i64 x.a, .int .i64 x.b, .int .i64 x.c, .int .i64 x.d] 27))
  go_enter Try.func60, Try.ntmps60
  go_wp2
  go_ret
  exact ⟨by first | rfl | simp [stB], HB.out⟩
theorem settled_fits (w : World) : Fits 60 #[] stB w := fun x w1 _ => settled_any x w1
theorem eg60 : ∀ (args : Array Value) (w : World), (callFunc 60 args).run Try.prog w = .ok (.enter 60 args) w := fun _ _ => by kernel_rfl
set_option maxRecDepth 100000 in
set_option maxHeartbeats 8000000 in
theorem flying1_any (x : Od) (w : World) : Calls Try.prog 69 #[.agg #[.int .i64 x.a, .int .i64 x.b, .int .i64 x.c, .int .i64 x.d]] w fun e w' => e = .returned (.bool (!stB x)) ∧ Below w.heap.size w w' := by
  have HB := Lib.hid (al w (.cells #[.int .i64 x.a, .int .i64 x.b, .int .i64 x.c, .int .i64 x.d] 27))
  have HO := Lib.hid (Cs.new w w.heap.size #[.int .i64 x.a, .int .i64 x.b, .int .i64 x.c, .int .i64 x.d] 27 rfl)
  go_enter Try.func69, Try.ntmps69
  go_wp2_with fail
  refine (settled_any x _).mono ?_
  rintro e w2 ⟨rfl, b2⟩
  have HB2 := Lib.hid (keep2 b2 HB.out)
  clear b2
  go_wp2
  go_ret
  exact ⟨by first | rfl | simp, HB2.out⟩
theorem flying1_fits (w : World) : Fits 69 #[] (fun x => !stB x) w := fun x w1 _ => flying1_any x w1
theorem eg69 : ∀ (args : Array Value) (w : World), (callFunc 69 args).run Try.prog w = .ok (.enter 69 args) w := fun _ _ => by kernel_rfl
set_option maxRecDepth 100000 in
set_option maxHeartbeats 8000000 in
theorem confirm2_any (x : Od) (w : World) : Calls Try.prog 62 #[.agg #[.int .i64 x.a, .int .i64 x.b, .int .i64 x.c, .int .i64 x.d]] w fun e w' => e = .returned (.bool (!stB x)) ∧ Below w.heap.size w w' := by
  have HB := Lib.hid (al w (.cells #[.int .i64 x.a, .int .i64 x.b, .int .i64 x.c, .int .i64 x.d] 27))
  have HO := Lib.hid (Cs.new w w.heap.size #[.int .i64 x.a, .int .i64 x.b, .int .i64 x.c, .int .i64 x.d] 27 rfl)
  go_enter Try.func62, Try.ntmps62
  go_wp2_with fail
  refine (settled_any x _).mono ?_
  rintro e w2 ⟨rfl, b2⟩
  have HB2 := Lib.hid (keep2 b2 HB.out)
  clear b2
  go_wp2
  go_ret
  exact ⟨by first | rfl | simp, HB2.out⟩
theorem confirm2_fits (w : World) : Fits 62 #[] (fun x => !stB x) w := fun x w1 _ => confirm2_any x w1
theorem eg62 : ∀ (args : Array Value) (w : World), (callFunc 62 args).run Try.prog w = .ok (.enter 62 args) w := fun _ _ => by kernel_rfl
set_option maxRecDepth 100000 in
set_option maxHeartbeats 8000000 in
theorem send1_any (x : Od) (o : Od) (k : Nat) (w : World) (h : Cs w k #[.int .i64 o.a, .int .i64 o.b, .int .i64 o.c, .int .i64 o.d]) : Calls Try.prog 54 #[.agg #[.int .i64 x.a, .int .i64 x.b, .int .i64 x.c, .int .i64 x.d], .pointer (some ⟨k, 0, none⟩)] w fun e w' => e = .returned (.bool (decide (o.a ≤ x.a))) ∧ Below w.heap.size w w' := by
  have HB := Lib.hid (al w (.cells #[.int .i64 x.a, .int .i64 x.b, .int .i64 x.c, .int .i64 x.d] 27))
  have HC := Lib.hid (h.alloc (.cells #[.int .i64 x.a, .int .i64 x.b, .int .i64 x.c, .int .i64 x.d] 27))
  have c0 := HC.out.c 0 rfl
  have cz := HC.out.2.2
  clear h
  go_enter Try.func54, Try.ntmps54
  go_wp2
  go_ret
  exact ⟨by first | rfl | (simp; done) | (simp [decide_not]; done), by first | exact HB.out | exact HB2.out⟩
theorem send1_fits (o : Od) (k : Nat) (w : World) (h : Cs w k #[.int .i64 o.a, .int .i64 o.b, .int .i64 o.c, .int .i64 o.d]) : Fits 54 #[.pointer (some ⟨k, 0, none⟩)] (fun x => decide (o.a ≤ x.a)) w := fun x w1 hb => send1_any x o k w1 (h.step hb)
theorem eg54 : ∀ (args : Array Value) (w : World), (callFunc 54 args).run Try.prog w = .ok (.enter 54 args) w := fun _ _ => by kernel_rfl
set_option maxRecDepth 100000 in
set_option maxHeartbeats 8000000 in
theorem send2_any (x : Od) (o : Od) (k : Nat) (w : World) (h : Cs w k #[.int .i64 o.a, .int .i64 o.b, .int .i64 o.c, .int .i64 o.d]) : Calls Try.prog 55 #[.agg #[.int .i64 x.a, .int .i64 x.b, .int .i64 x.c, .int .i64 x.d], .pointer (some ⟨k, 0, none⟩)] w fun e w' => e = .returned (.bool (decide (o.b < x.b))) ∧ Below w.heap.size w w' := by
  have HB := Lib.hid (al w (.cells #[.int .i64 x.a, .int .i64 x.b, .int .i64 x.c, .int .i64 x.d] 27))
  have HC := Lib.hid (h.alloc (.cells #[.int .i64 x.a, .int .i64 x.b, .int .i64 x.c, .int .i64 x.d] 27))
  have c0 := HC.out.c 0 rfl
  have c1 := HC.out.c 1 rfl
  have cz := HC.out.2.2
  clear h
  go_enter Try.func55, Try.ntmps55
  go_wp2
  go_ret
  exact ⟨by first | rfl | (simp; done) | (simp [decide_not]; done), by first | exact HB.out | exact HB2.out⟩
theorem send2_fits (o : Od) (k : Nat) (w : World) (h : Cs w k #[.int .i64 o.a, .int .i64 o.b, .int .i64 o.c, .int .i64 o.d]) : Fits 55 #[.pointer (some ⟨k, 0, none⟩)] (fun x => decide (o.b < x.b)) w := fun x w1 hb => send2_any x o k w1 (h.step hb)
theorem eg55 : ∀ (args : Array Value) (w : World), (callFunc 55 args).run Try.prog w = .ok (.enter 55 args) w := fun _ _ => by kernel_rfl
set_option maxRecDepth 100000 in
set_option maxHeartbeats 8000000 in
theorem report1_any (x : Od) (t : Int) (k : Nat) (w : World) (h : Cs w k #[.int .i64 t]) : Calls Try.prog 65 #[.agg #[.int .i64 x.a, .int .i64 x.b, .int .i64 x.c, .int .i64 x.d], .pointer (some ⟨k, 0, none⟩)] w fun e w' => e = .returned (.bool (decide (t < x.a))) ∧ Below w.heap.size w w' := by
  have HB := Lib.hid (al w (.cells #[.int .i64 x.a, .int .i64 x.b, .int .i64 x.c, .int .i64 x.d] 27))
  have HC := Lib.hid (h.alloc (.cells #[.int .i64 x.a, .int .i64 x.b, .int .i64 x.c, .int .i64 x.d] 27))
  have c0 := HC.out.c 0 rfl
  have cz := HC.out.2.2
  clear h
  go_enter Try.func65, Try.ntmps65
  go_wp2
  go_ret
  exact ⟨by first | rfl | (simp; done) | (simp [decide_not]; done), by first | exact HB.out | exact HB2.out⟩
theorem report1_fits (t : Int) (k : Nat) (w : World) (h : Cs w k #[.int .i64 t]) : Fits 65 #[.pointer (some ⟨k, 0, none⟩)] (fun x => decide (t < x.a)) w := fun x w1 hb => report1_any x t k w1 (h.step hb)
theorem eg65 : ∀ (args : Array Value) (w : World), (callFunc 65 args).run Try.prog w = .ok (.enter 65 args) w := fun _ _ => by kernel_rfl
set_option maxRecDepth 100000 in
set_option maxHeartbeats 8000000 in
theorem confirm1_any (x : Od) (t : Int) (k : Nat) (w : World) (h : Cs w k #[.int .i64 t]) : Calls Try.prog 59 #[.agg #[.int .i64 x.a, .int .i64 x.b, .int .i64 x.c, .int .i64 x.d], .pointer (some ⟨k, 0, none⟩)] w fun e w' => e = .returned (.bool (!stB x && decide (x.a = t))) ∧ Below w.heap.size w w' := by
  have HB := Lib.hid (al w (.cells #[.int .i64 x.a, .int .i64 x.b, .int .i64 x.c, .int .i64 x.d] 27))
  have HC := Lib.hid (h.alloc (.cells #[.int .i64 x.a, .int .i64 x.b, .int .i64 x.c, .int .i64 x.d] 27))
  have HO := Lib.hid (Cs.new w w.heap.size #[.int .i64 x.a, .int .i64 x.b, .int .i64 x.c, .int .i64 x.d] 27 rfl)
  clear h
  cases hs : stB x
  all_goals go_enter Try.func59, Try.ntmps59
  all_goals go_wp2_with fail
  all_goals refine (settled_any x _).mono ?_
  all_goals rintro e w2 ⟨rfl, b2⟩
  all_goals rw [hs]
  all_goals have HB2 := Lib.hid (keep2 b2 HB.out)
  all_goals have c0 := (HC.out.step b2).c 0 rfl
  all_goals have cz := (HC.out.step b2).2.2
  all_goals have o0 := (HO.out.step b2).c 0 rfl
  all_goals have oz := (HO.out.step b2).2.2
  all_goals clear b2
  all_goals go_wp2
  all_goals go_ret
  all_goals exact ⟨by first | rfl | (simp; done), HB2.out⟩
theorem confirm1_fits (t : Int) (k : Nat) (w : World) (h : Cs w k #[.int .i64 t]) : Fits 59 #[.pointer (some ⟨k, 0, none⟩)] (fun x => !stB x && decide (x.a = t)) w := fun x w1 hb => confirm1_any x t k w1 (h.step hb)
theorem eg59 : ∀ (args : Array Value) (w : World), (callFunc 59 args).run Try.prog w = .ok (.enter 59 args) w := fun _ _ => by kernel_rfl
set_option maxRecDepth 100000 in
set_option maxHeartbeats 8000000 in
theorem confirm3_any (x o : Od) (k : Nat) (hq : -1000 ≤ o.a ∧ o.a ≤ 1000000000) (w : World) (h : Cs w k #[.int .i64 o.a, .int .i64 o.b, .int .i64 o.c, .int .i64 o.d]) : Calls Try.prog 64 #[.agg #[.int .i64 x.a, .int .i64 x.b, .int .i64 x.c, .int .i64 x.d], .pointer (some ⟨k, 0, none⟩)] w fun e w' => e = .returned (.bool (decide (o.a - 16 < x.a) && decide (o.b ≤ x.b))) ∧ Below w.heap.size w w' := by
  have HB := Lib.hid (al w (.cells #[.int .i64 x.a, .int .i64 x.b, .int .i64 x.c, .int .i64 x.d] 27))
  have HC := Lib.hid (h.alloc (.cells #[.int .i64 x.a, .int .i64 x.b, .int .i64 x.c, .int .i64 x.d] 27))
  have c0 := HC.out.c 0 rfl
  have c1 := HC.out.c 1 rfl
  have cz := HC.out.2.2
  clear h
  obtain ⟨h1, h2⟩ := hq
  have hw : wrap64 (o.a - 16) = o.a - 16 := IntWalk.wrap64_in _ (by omega)
  by_cases hd : o.a - 16 < x.a
  · have he := decide_eq_true hd
    go_enter Try.func64, Try.ntmps64
    go_wp2
    go_ret
    exact ⟨by first | rfl | (simp [hd]; done), HB.out⟩
  · have he := decide_eq_false hd
    go_enter Try.func64, Try.ntmps64
    go_wp2
    go_ret
    exact ⟨by first | rfl | (rw [he]; rfl), HB.out⟩
theorem confirm3_fits (o : Od) (k : Nat) (hq : -1000 ≤ o.a ∧ o.a ≤ 1000000000) (w : World) (h : Cs w k #[.int .i64 o.a, .int .i64 o.b, .int .i64 o.c, .int .i64 o.d]) : Fits 64 #[.pointer (some ⟨k, 0, none⟩)] (fun x => decide (o.a - 16 < x.a) && decide (o.b ≤ x.b)) w := fun x w1 hb => confirm3_any x o k hq w1 (h.step hb)
theorem eg64 : ∀ (args : Array Value) (w : World), (callFunc 64 args).run Try.prog w = .ok (.enter 64 args) w := fun _ _ => by kernel_rfl
end Go.Proofs.Ytolinnmhdclgpaa
