import Derived.BigQuiet
import Derived.BigRegion
import Derived.ChangeAlike
import Derived.Deep.QuietTactic
import Derived.Deep.Slices
import Derived.IntWalk
import Derived.Lib.Hide
import Derived.Lib.SmallJoins
import Derived.Maps.AppendAt
import Derived.OpenShut
import Derived.Outline
import Derived.OwnWalk
import Derived.ProofKit
import Derived.RegionTactic
import Derived.Test.YtnanndmpbecdiaaRows
import Derived.WalkKit
import Derived.WalkLawsBesides
import Derived.WalkSpells
namespace Go.Proofs.Ytnanndmpbecdiaa
open Go.RowKit

theorem ret_bool {a b : Bool} (h : a = b) : Ending.returned (.bool a) = .returned (.bool b) := by rw [h]
theorem keep1 {w w1 : World} {p : Addr} {v : Value} (hb : Below w.heap.size w w1) (h : w.cell? p = some v) : w1.cell? p = some v := (hb.cell (World.block_lt_of_cell? _ _ h)).trans h
theorem keep2 {w w1 w2 : World} (hb : Below w1.heap.size w1 w2) (h : Below w.heap.size w w1) : Below w.heap.size w w2 := h.trans (hb.mono h.size)
theorem bcell {W w1 : World} (hb : Below W.heap.size W w1) : (∀ b o, b < W.heap.size → w1.cell? ⟨b, o, none⟩ = W.cell? ⟨b, o, none⟩) ∧ (∀ b o, b < W.heap.size → w1.frozen? ⟨b, o, none⟩ = W.frozen? ⟨b, o, none⟩) :=
  ⟨fun b o h => hb.cell (p := ⟨b, o, none⟩) h, fun b o h => hb.frozen (p := ⟨b, o, none⟩) h⟩
theorem below_drewN' (B : Nat) (W : World) (n : Nat) : Below B W (W.drewN n) := ⟨rfl, rfl, rfl, Nat.le_refl _, fun _ _ => rfl⟩
theorem below_drew (B : Nat) (W : World) : Below B W W.drew := ⟨rfl, rfl, rfl, Nat.le_refl _, fun _ _ => rfl⟩
theorem al (W : World) (o : Obj) : Below W.heap.size W (W.alloc o) := (Below.refl _ _).alloc (Nat.le_refl _) o
theorem al2 {w : World} {o1 o2 : Obj} : Below w.heap.size w ((w.alloc o1).alloc o2) := (al w o1).alloc (by simp) o2
theorem al3 {w : World} {o1 o2 o3 : Obj} : Below w.heap.size w (((w.alloc o1).alloc o2).alloc o3) := (al2).alloc (by simp; omega) o3
theorem cell_new' (w : World) (cs : Array Value) (t : TypeId) (n : Nat) (hn : n = w.heap.size) (j : Nat) : (w.alloc (.cells cs t)).cell? ⟨n, j, none⟩ = cs[j]? := by
  subst hn; simp
theorem frozen_new (w : World) (cs : Array Value) (t : TypeId) (n : Nat) (hn : n = w.heap.size) (j : Nat) : (w.alloc (.cells cs t)).frozen? ⟨n, j, none⟩ = false := by
  subst hn
  have := heap_alloc_new w (.cells cs t); simp only [World.frozen?, this]; simp
/-- The cells of a block that may be written. -/
def Cs (w : World) (n : Nat) (vs : Array Value) : Prop := (∀ j, j < vs.size → w.cell? ⟨n, j, none⟩ = vs[j]?) ∧ (∀ j, j < vs.size → w.frozen? ⟨n, j, none⟩ = false) ∧ n < w.heap.size
theorem Cs.new (w : World) (n : Nat) (vs : Array Value) (t : TypeId) (hn : n = w.heap.size) : Cs (w.alloc (.cells vs t)) n vs :=
  ⟨fun j _ => cell_new' w vs t n hn j, fun j _ => frozen_new w vs t n hn j, by subst hn; simp⟩
theorem Cs.step {w w1 : World} {n : Nat} {vs : Array Value} (h : Cs w n vs) (hb : Below w.heap.size w w1) : Cs w1 n vs :=
  ⟨fun j hj => (hb.cell (p := ⟨n, j, none⟩) h.2.2).trans (h.1 j hj), fun j hj => (hb.frozen (p := ⟨n, j, none⟩) h.2.2).trans (h.2.1 j hj), Nat.lt_of_lt_of_le h.2.2 hb.size⟩
theorem Cs.alloc {w : World} {n : Nat} {vs : Array Value} (h : Cs w n vs) (o : Obj) : Cs (w.alloc o) n vs := h.step (al w o)
theorem Cs.c {w : World} {n : Nat} {vs : Array Value} (h : Cs w n vs) (j : Nat) {v : Value} (hv : vs[j]? = some v) : w.cell? ⟨n, j, none⟩ = some v := (h.1 j (Array.getElem?_eq_some_iff.1 hv).1).trans hv
theorem Cs.f {w : World} {n : Nat} {vs : Array Value} (h : Cs w n vs) (j : Nat) (hj : j < vs.size) : w.frozen? ⟨n, j, none⟩ = false := h.2.1 j hj

/-- A list of ints lies behind a slice. -/
def IntsAt (w : World) (v : Value) (l : List Int) : Prop :=
  ∃ a cap, v = .slice a l.length cap ∧ l.length ≤ maxLen ∧ (l ≠ [] → ∃ b off, a = some ⟨b, off, none⟩ ∧ ∀ (i : Nat) (x : Int), l[i]? = some x → w.cell? ⟨b, off + i, none⟩ = some (.int .i64 x))
theorem IntsAt.step {w w1 : World} {v : Value} {l : List Int} (h : IntsAt w v l) (hb : Below w.heap.size w w1) : IntsAt w1 v l := by
  obtain ⟨a, cap, hv, hm, hc⟩ := h
  refine ⟨a, cap, hv, hm, fun hl => ?_⟩
  obtain ⟨b, off, ha, hx⟩ := hc hl
  exact ⟨b, off, ha, fun i x h => keep1 hb (hx i x h)⟩
theorem IntsAt.drewN {w : World} {v : Value} {l : List Int} (h : IntsAt w v l) (n : Nat) : IntsAt (w.drewN n) v l := h.step (below_drewN' _ _ _)
theorem ints_nil (w : World) : IntsAt w (.slice none 0 0) [] := ⟨none, 0, rfl, by simp, fun h => absurd rfl h⟩
theorem ints_lit (W : World) (l : List Int) (cs : Array Value) (t : TypeId) (hc : cs.toList = l.map (.int .i64)) (hm : l.length ≤ 1000) (n : Nat) (hn : n = l.length) (b : Nat) (hb : b = W.heap.size) : IntsAt (W.alloc (.cells cs t)) (.slice (some ⟨b, 0, none⟩) n n) l := by
  subst hn hb
  refine ⟨_, _, rfl, by unfold maxLen; omega, fun _ => ⟨W.heap.size, 0, rfl, fun i x hi => ?_⟩⟩
  rw [cell_new' W cs t _ (by rfl), ← Array.getElem?_toList, hc, List.getElem?_map, Nat.zero_add]
  simp [hi]
theorem getD_of {l : List Int} {k : Nat} (h : k < l.length) : l[k]? = some (l.getD k 0) := by
  simp [h]
theorem ints_of_row {w : World} {base : Nat} {t : TypeId} {v : Value} {xs : List Int} (h : w.ownsRow base t 1 v xs.length (xs.map (Value.int .i64))) : IntsAt w v xs := by
  rcases h.2 with ⟨rfl, hn⟩ | ⟨g, cap, cur, rfl, hbg, hg, hnc, hcm, hcur, htake⟩
  · have : xs = [] := by simpa using hn
    subst this
    exact ints_nil _
  · have hc := h.cells (g := g) rfl
    refine ⟨_, cap, rfl, by omega, fun _ => ⟨g, 0, rfl, fun i x hi => ?_⟩⟩
    have := hc i (.int .i64 x) (by rw [List.getElem?_map, hi]; rfl)
    rwa [Go.WideShapes.add_plain] at this
theorem below_own {w wr w1 : World} {t : TypeId} {v : Value} {o : Obj} {n : Nat} {xs : List Value} {B s : Nat} (hBw : B ≤ w.heap.size) (hB : Below B w wr) (hrow : wr.ownsRow B t s v n xs) (hg : (wr.alloc o).grownBy w1 v.ownBlock) : Below B w w1 := by
  have h2 := hB.size
  refine ((hB.alloc (Nat.le_trans hBw h2) o).grown hg (by simp; omega) fun j ej => ?_)
  rcases hrow.2 with ⟨rfl, _⟩ | ⟨g, cap, cur, rfl, hb, _, _⟩
  · simp [Value.ownBlock] at ej
  · obtain rfl : g = j := by simpa [Value.ownBlock] using ej
    exact hb
open Go.RowKit

theorem Cs.other {w : World} {n b : Nat} {vs : Array Value} (h : Cs w n vs) (hne : n ≠ b) (j : Nat) (v : Value) : Cs (w.setCell ⟨b, j, none⟩ v) n vs := by
  have hb := Below.heap_setCell w ⟨b, j, none⟩ v n hne
  exact ⟨fun i hi => (World.cell?_of_block (a := ⟨n, i, none⟩) hb).trans (h.1 i hi), fun i hi => (World.frozen?_of_block (a := ⟨n, i, none⟩) hb).trans (h.2.1 i hi), by simpa using h.2.2⟩
theorem Cs.set {w : World} {b : Nat} {vs : Array Value} (h : Cs w b vs) (j : Nat) (hj : j < vs.size) (v : Value) {vs' : Array Value} (hvs : vs.setIfInBounds j v = vs') : Cs (w.setCell ⟨b, j, none⟩ v) b vs' := by
  subst hvs
  have hsz : (vs.setIfInBounds j v).size = vs.size := by simp
  refine ⟨fun i hi => ?_, fun i hi => ?_, by simpa using h.2.2⟩
  · rw [hsz] at hi
    by_cases e : j = i
    · subst e
      rw [World.cell?_setCell_same _ _ _ (u := vs[j]) ((h.1 j hj).trans (Array.getElem?_eq_getElem hj))]
      simp [hj]
    · rw [World.cell?_setCell_other _ _ _ _ (by intro h2; injection h2 with _ h3; exact e h3), h.1 i hi]
      simp [e]
  · rw [hsz] at hi
    rw [World.frozen?_setCell]; exact h.2.1 i hi
open Go.RowKit

/-- From lo to hi. -/
def inr (n lo hi : Int) : Bool := decide (lo ≤ n) && decide (n ≤ hi)
theorem inr_iff {n lo hi : Int} : inr n lo hi = true ↔ lo ≤ n ∧ n ≤ hi := by unfold inr; simp
/-- A voter, and a lease. -/
def vtc (f h u : Int) : Array Value := #[.int .i64 f, .int .i64 h, .int .i64 u]
def lsc (h f u : Int) : Array Value := #[.int .i64 h, .int .i64 f, .int .i64 u]
def lsB (h f u now : Int) : Bool := inr h 0 2 && inr f 1 1000000000 && inr u (now + 1) 2000000000
def agB (vf vh vu h f u now : Int) : Bool := lsB h f u now && decide (vf < f) && (decide (vu ≤ now) || vh == h)
def mxi (a b : Int) : Int := if a < b then b else a
def grU (vh vu h u : Int) : Int := if vh = h then mxi u vu else u
def tmB (now : Int) : Bool := inr now 0 1000000000
def voB (vf vh vu h f u now : Int) : Bool := tmB now && agB vf vh vu h f u now
theorem within_any (n lo hi : Int) (w : World) : Calls Try.prog 28 #[.int .i64 n, .int .i64 lo, .int .i64 hi] w fun e w' => e = .returned (.bool (inr n lo hi)) ∧ w = w' := by
  by_cases h1 : lo ≤ n <;> by_cases h2 : n ≤ hi
  all_goals
    have HR := Lib.hid (show inr n lo hi = (decide (lo ≤ n) && decide (n ≤ hi)) from rfl)
    simp only [h1, h2, decide_true, decide_false, Bool.and_self, Bool.and_false, Bool.and_true] at HR
    go_enter Try.func28, Try.ntmps28
    go_wp2
    go_ret
    exact ⟨ret_bool HR.out.symm, rfl⟩
theorem within_q (n lo hi : Int) (b : Bool) (hb : inr n lo hi = b) (w : World) : Calls Try.prog 28 #[.int .i64 n, .int .i64 lo, .int .i64 hi] w fun e w' => e = .returned (.bool b) ∧ w = w' := by
  rw [← hb]; exact within_any n lo hi w
theorem isTime_any (n : Int) (w : World) : Calls Try.prog 23 #[.int .i64 n] w fun e w' => e = .returned (.bool (tmB n)) ∧ w = w' := by
  go_enter Try.func23, Try.ntmps23
  go_wp2_with fail
  refine (within_any n 0 1000000000 _).mono ?_
  rintro e w' ⟨rfl, rfl⟩
  go_wp2
  go_ret
  exact ⟨rfl, rfl⟩
theorem isMajority_any (n m : Int) (w : World) (h1 : 0 ≤ n) (h2 : n ≤ 1000000000) : Calls Try.prog 20 #[.int .i64 n, .int .i64 m] w fun e w' => e = .returned (.bool (decide (m < 2 * n))) ∧ w = w' := by
  go_enter Try.func20, Try.ntmps20
  go_wp2
  go_ret
  exact ⟨rfl, rfl⟩
set_option maxRecDepth 100000 in
set_option maxHeartbeats 1000000 in
theorem isLease_any (h f u now : Int) (w : World) (t1 : 0 ≤ now) (t2 : now ≤ 1000000000) : Calls Try.prog 30 #[.agg (lsc h f u), .int .i64 now] w fun e w' => e = .returned (.bool (lsB h f u now)) ∧ Below w.heap.size w w' := by
  unfold lsc
  cases h1 : inr h 0 2
  · have HR := Lib.hid (show lsB h f u now = false by unfold lsB; rw [h1]; rfl)
    have H1 := Lib.hid h1; clear h1
    go_enter Try.func30, Try.ntmps30
    go_wp2_with (go_at_call 28; refine (within_q h 0 2 _ H1.out _).mono ?_; rintro e w' ⟨rfl, rfl⟩)
    go_ret
    exact ⟨ret_bool HR.out.symm, al _ _⟩
  · cases h2 : inr f 1 1000000000
    · have HR := Lib.hid (show lsB h f u now = false by unfold lsB; rw [h1, h2]; rfl)
      have H1 := Lib.hid h1; clear h1
      have H2 := Lib.hid h2; clear h2
      go_enter Try.func30, Try.ntmps30
      go_wp2_with fail
      refine (within_q h 0 2 _ H1.out _).mono ?_
      rintro e w' ⟨rfl, rfl⟩
      go_wp2_with fail
      refine (within_q f 1 1000000000 _ H2.out _).mono ?_
      rintro e w' ⟨rfl, rfl⟩
      go_wp2
      go_ret
      exact ⟨ret_bool HR.out.symm, al _ _⟩
    · have HR := Lib.hid (show lsB h f u now = inr u (now + 1) 2000000000 by unfold lsB; rw [h1, h2]; rfl)
      have H1 := Lib.hid h1; clear h1
      have H2 := Lib.hid h2; clear h2
      go_enter Try.func30, Try.ntmps30
      go_wp2_with fail
      refine (within_q h 0 2 _ H1.out _).mono ?_
      rintro e w' ⟨rfl, rfl⟩
      go_wp2_with fail
      refine (within_q f 1 1000000000 _ H2.out _).mono ?_
      rintro e w' ⟨rfl, rfl⟩
      go_wp2_with fail
      refine (within_any u (now + 1) 2000000000 _).mono ?_
      rintro e w' ⟨rfl, rfl⟩
      go_wp2
      go_ret
      exact ⟨ret_bool HR.out.symm, al _ _⟩
set_option maxRecDepth 100000 in
set_option maxHeartbeats 2000000 in
theorem agrees_any (vf vh vu h f u now : Int) (w : World) (t1 : 0 ≤ now) (t2 : now ≤ 1000000000) : Calls Try.prog 19 #[.agg (vtc vf vh vu), .agg (lsc h f u), .int .i64 now] w fun e w' => e = .returned (.bool (agB vf vh vu h f u now)) ∧ Below w.heap.size w w' := by
  have HV := Lib.hid ((Cs.new w w.heap.size (vtc vf vh vu) 66 rfl).alloc (.cells (lsc h f u) 37))
  have HL := Lib.hid (Cs.new (w.alloc (.cells (vtc vf vh vu) 66)) (w.heap.size + 1) (lsc h f u) 37 (by simp))
  have HB := Lib.hid (al2 (w := w) (o1 := .cells (vtc vf vh vu) 66) (o2 := .cells (lsc h f u) 37))
  have HC := Lib.hid (isLease_any h f u now ((w.alloc (.cells (vtc vf vh vu) 66)).alloc (.cells (lsc h f u) 37)) t1 t2)
  have T2 := t2
  clear t1 t2
  unfold lsc vtc at *
  cases h1 : lsB h f u now
  · have HR := Lib.hid (show agB vf vh vu h f u now = false by unfold agB; rw [h1]; rfl)
    have H1 := Lib.hid h1; clear h1
    go_enter Try.func19, Try.ntmps19
    go_wp2_with fail
    refine HC.out.mono ?_
    rintro e w1 ⟨rfl, b1⟩
    rw [H1.out]
    have B1 := Lib.hid b1
    clear b1
    go_wp2
    go_ret
    exact ⟨ret_bool HR.out.symm, keep2 B1.out HB.out⟩
  · by_cases h2 : vf < f
    · by_cases h3 : vu ≤ now
      · have HR := Lib.hid (show agB vf vh vu h f u now = true by unfold agB; rw [h1]; simp [h2, h3])
        have H1 := Lib.hid h1; clear h1
        go_enter Try.func19, Try.ntmps19
        go_wp2_with fail
        refine HC.out.mono ?_
        rintro e w1 ⟨rfl, b1⟩
        rw [H1.out]
        have x0 := (HV.out.step b1).c 0 rfl
        have x1 := (HV.out.step b1).c 1 rfl
        have x2 := (HV.out.step b1).c 2 rfl
        have y0 := (HL.out.step b1).c 0 rfl
        have y1 := (HL.out.step b1).c 1 rfl
        have B1 := Lib.hid b1
        clear b1
        go_wp2
        go_ret
        exact ⟨ret_bool HR.out.symm, keep2 B1.out HB.out⟩
      · have HR := Lib.hid (show agB vf vh vu h f u now = (decide (vu ≤ now) || vh == h) by unfold agB; rw [h1]; simp [h2])
        have H1 := Lib.hid h1; clear h1
        go_enter Try.func19, Try.ntmps19
        go_wp2_with fail
        refine HC.out.mono ?_
        rintro e w1 ⟨rfl, b1⟩
        rw [H1.out]
        have x0 := (HV.out.step b1).c 0 rfl
        have x1 := (HV.out.step b1).c 1 rfl
        have x2 := (HV.out.step b1).c 2 rfl
        have y0 := (HL.out.step b1).c 0 rfl
        have y1 := (HL.out.step b1).c 1 rfl
        have B1 := Lib.hid b1
        clear b1
        go_wp2
        go_ret
        exact ⟨ret_bool HR.out.symm, keep2 B1.out HB.out⟩
    · have HR := Lib.hid (show agB vf vh vu h f u now = false by unfold agB; rw [h1]; simp [h2])
      have H1 := Lib.hid h1; clear h1
      go_enter Try.func19, Try.ntmps19
      go_wp2_with fail
      refine HC.out.mono ?_
      rintro e w1 ⟨rfl, b1⟩
      rw [H1.out]
      have x0 := (HV.out.step b1).c 0 rfl
      have x1 := (HV.out.step b1).c 1 rfl
      have x2 := (HV.out.step b1).c 2 rfl
      have y0 := (HL.out.step b1).c 0 rfl
      have y1 := (HL.out.step b1).c 1 rfl
      have B1 := Lib.hid b1
      clear b1
      go_wp2
      go_ret
      exact ⟨ret_bool HR.out.symm, keep2 B1.out HB.out⟩
set_option maxRecDepth 100000 in
set_option maxHeartbeats 2000000 in
theorem granting_any (vf vh vu h f u : Int) (w : World) : Calls Try.prog 38 #[.agg (vtc vf vh vu), .agg (lsc h f u)] w fun e w' => e = .returned (.agg (vtc f h (grU vh vu h u))) ∧ Below w.heap.size w w' := by
  unfold lsc vtc
  by_cases h1 : vh = h
  · by_cases h2 : u < vu
    · have HR := Lib.hid (show grU vh vu h u = vu by unfold grU mxi; rw [if_pos h1, if_pos h2])
      have q1 : (vh == h) = true := by simpa using h1
      clear h1
      go_enter Try.func38, Try.ntmps38
      go_wp2
      exact bodyPost_ret (v := .agg #[.int .i64 f, .int .i64 h, .int .i64 vu]) (by simp [results, Try.results38, go_sem]) rfl ⟨by rw [HR.out], (by repeat (first | with_reducible exact Below.refl _ _ | with_reducible exact Below.refl _ _ | ((with_reducible refine Below.setCell ?_ ?_ _); rotate_left; focus (first | (simp; done) | (simp; omega) | omega)) | ((with_reducible refine Below.alloc ?_ ?_ _); rotate_left; focus (first | (simp; done) | (simp; omega) | omega)) | with_reducible refine Below.trans ?_ (below_drewN' _ _ _) | with_reducible refine Below.trans ?_ (below_drew _ _)))⟩
    · have HR := Lib.hid (show grU vh vu h u = u by unfold grU mxi; rw [if_pos h1, if_neg h2])
      have q1 : (vh == h) = true := by simpa using h1
      clear h1
      go_enter Try.func38, Try.ntmps38
      go_wp2
      exact bodyPost_ret (v := .agg #[.int .i64 f, .int .i64 h, .int .i64 u]) (by simp [results, Try.results38, go_sem]) rfl ⟨by rw [HR.out], (by repeat (first | with_reducible exact Below.refl _ _ | with_reducible exact Below.refl _ _ | ((with_reducible refine Below.setCell ?_ ?_ _); rotate_left; focus (first | (simp; done) | (simp; omega) | omega)) | ((with_reducible refine Below.alloc ?_ ?_ _); rotate_left; focus (first | (simp; done) | (simp; omega) | omega)) | with_reducible refine Below.trans ?_ (below_drewN' _ _ _) | with_reducible refine Below.trans ?_ (below_drew _ _)))⟩
  · have HR := Lib.hid (show grU vh vu h u = u by unfold grU; rw [if_neg h1])
    have q1 : (vh == h) = false := by simpa using h1
    clear h1
    go_enter Try.func38, Try.ntmps38
    go_wp2
    exact bodyPost_ret (v := .agg #[.int .i64 f, .int .i64 h, .int .i64 u]) (by simp [results, Try.results38, go_sem]) rfl ⟨by rw [HR.out], (by repeat (first | with_reducible exact Below.refl _ _ | with_reducible exact Below.refl _ _ | ((with_reducible refine Below.setCell ?_ ?_ _); rotate_left; focus (first | (simp; done) | (simp; omega) | omega)) | ((with_reducible refine Below.alloc ?_ ?_ _); rotate_left; focus (first | (simp; done) | (simp; omega) | omega)) | with_reducible refine Below.trans ?_ (below_drewN' _ _ _) | with_reducible refine Below.trans ?_ (below_drew _ _)))⟩
open Go.RowKit

theorem tm_of {now : Int} (h : tmB now = true) : 0 ≤ now ∧ now ≤ 1000000000 := inr_iff.1 h
def votedV (vf vh vu h f u now : Int) : Array Value := if voB vf vh vu h f u now then vtc f h (grU vh vu h u) else vtc vf vh vu
theorem voB_no {vf vh vu h f u now : Int} (h1 : tmB now = false) : voB vf vh vu h f u now = false := by unfold voB; rw [h1]; rfl
theorem voB_ag {vf vh vu h f u now : Int} (h1 : tmB now = true) : voB vf vh vu h f u now = agB vf vh vu h f u now := by unfold voB; rw [h1]; rfl
set_option maxRecDepth 100000 in
set_option maxHeartbeats 2000000 in
theorem vote_any (vf vh vu h f u now : Int) (w : World) : Calls Try.prog 29 #[.agg (vtc vf vh vu), .agg (lsc h f u), .int .i64 now] w fun e w' => e = .returned (.tuple #[.agg (votedV vf vh vu h f u now), .bool (voB vf vh vu h f u now)]) ∧ Below w.heap.size w w' := by
  have HV := Lib.hid (((Cs.new w w.heap.size (vtc vf vh vu) 64 rfl).alloc (.cells (lsc h f u) 37)).alloc (.cells (vtc 0 0 0) 64))
  have HL := Lib.hid ((Cs.new (w.alloc (.cells (vtc vf vh vu) 64)) (w.heap.size + 1) (lsc h f u) 37 (by simp)).alloc (.cells (vtc 0 0 0) 64))
  have HO := Lib.hid (Cs.new ((w.alloc (.cells (vtc vf vh vu) 64)).alloc (.cells (lsc h f u) 37)) (w.heap.size + 1 + 1) (vtc 0 0 0) 64 (by simp))
  have HB := Lib.hid (al3 (w := w) (o1 := .cells (vtc vf vh vu) 64) (o2 := .cells (lsc h f u) 37) (o3 := .cells (vtc 0 0 0) 64))
  cases h1 : tmB now
  · have HR := Lib.hid (voB_no (vf := vf) (vh := vh) (vu := vu) (h := h) (f := f) (u := u) h1)
    have HQ := Lib.hid (show votedV vf vh vu h f u now = vtc vf vh vu by unfold votedV; rw [HR.out]; rfl)
    have H1 := Lib.hid h1; clear h1
    rw [HR.out, HQ.out]
    unfold vtc lsc at *
    go_enter Try.func29, Try.ntmps29
    go_wp2_with fail
    refine (isTime_any now _).mono ?_
    rintro e w' ⟨rfl, rfl⟩
    rw [H1.out]
    go_wp2
    exact bodyPost_ret (v := .tuple #[.agg #[.int .i64 vf, .int .i64 vh, .int .i64 vu], .bool false]) (by simp [results, Try.results29, go_sem]) rfl ⟨rfl, (by repeat (first | with_reducible exact Below.refl _ _ | with_reducible exact Below.refl _ _ | ((with_reducible refine Below.setCell ?_ ?_ _); rotate_left; focus (first | (simp; done) | (simp; omega) | omega)) | ((with_reducible refine Below.alloc ?_ ?_ _); rotate_left; focus (first | (simp; done) | (simp; omega) | omega)) | with_reducible refine Below.trans ?_ (below_drewN' _ _ _) | with_reducible refine Below.trans ?_ (below_drew _ _)))⟩
  · obtain ⟨t1, t2⟩ := tm_of h1
    have HR := Lib.hid (voB_ag (vf := vf) (vh := vh) (vu := vu) (h := h) (f := f) (u := u) h1)
    have HC := Lib.hid (agrees_any vf vh vu h f u now (((w.alloc (.cells (vtc vf vh vu) 64)).alloc (.cells (lsc h f u) 37)).alloc (.cells (vtc 0 0 0) 64)) t1 t2)
    have H1 := Lib.hid h1; clear h1 t1 t2
    cases h2 : agB vf vh vu h f u now
    · have HQ := Lib.hid (show votedV vf vh vu h f u now = vtc vf vh vu by unfold votedV; rw [HR.out, h2]; rfl)
      have H2 := Lib.hid h2; clear h2
      rw [HR.out, HQ.out, H2.out]
      unfold vtc lsc at *
      go_enter Try.func29, Try.ntmps29
      go_wp2_with fail
      refine (isTime_any now _).mono ?_
      rintro e w' ⟨rfl, rfl⟩
      rw [H1.out]
      go_wp2_with fail
      refine HC.out.mono ?_
      rintro e w1 ⟨rfl, b1⟩
      rw [H2.out]
      have HV1 := Lib.hid (HV.out.step b1)
      have HO1 := Lib.hid (HO.out.step b1)
      have HB1 := Lib.hid (keep2 b1 HB.out)
      have hz := b1.size
      simp only [World.size_alloc] at hz
      have hz1 : w.heap.size < w1.heap.size := by omega
      have hz2 : w.heap.size + 1 < w1.heap.size := by omega
      have hz3 : w.heap.size + 1 + 1 < w1.heap.size := by omega
      clear b1 hz
      have x0 := HV1.out.c 0 rfl
      have x1 := HV1.out.c 1 rfl
      have x2 := HV1.out.c 2 rfl
      have y0 := HO1.out.c 0 rfl
      have y1 := HO1.out.c 1 rfl
      have y2 := HO1.out.c 2 rfl
      have z0 := HO1.out.f 0 (by simp)
      have z1 := HO1.out.f 1 (by simp)
      have z2 := HO1.out.f 2 (by simp)
      go_wp2
      exact bodyPost_ret (v := .tuple #[.agg #[.int .i64 vf, .int .i64 vh, .int .i64 vu], .bool false]) (by simp [results, Try.results29, go_sem, y0, y1, y2]) rfl ⟨rfl, (by repeat (first | with_reducible exact HB1.out | with_reducible exact Below.refl _ _ | ((with_reducible refine Below.setCell ?_ ?_ _); rotate_left; focus (first | (simp; done) | (simp; omega) | omega)) | ((with_reducible refine Below.alloc ?_ ?_ _); rotate_left; focus (first | (simp; done) | (simp; omega) | omega)) | with_reducible refine Below.trans ?_ (below_drewN' _ _ _) | with_reducible refine Below.trans ?_ (below_drew _ _)))⟩
    · have HQ := Lib.hid (show votedV vf vh vu h f u now = vtc f h (grU vh vu h u) by unfold votedV; rw [HR.out, h2]; rfl)
      have H2 := Lib.hid h2; clear h2
      rw [HR.out, HQ.out, H2.out]
      have HG := Lib.hid (granting_any vf vh vu h f u)
      unfold vtc lsc at *
      go_enter Try.func29, Try.ntmps29
      go_wp2_with fail
      refine (isTime_any now _).mono ?_
      rintro e w' ⟨rfl, rfl⟩
      rw [H1.out]
      go_wp2_with fail
      refine HC.out.mono ?_
      rintro e w1 ⟨rfl, b1⟩
      rw [H2.out]
      have HV1 := Lib.hid (HV.out.step b1)
      have HL1 := Lib.hid (HL.out.step b1)
      have HO1 := Lib.hid (HO.out.step b1)
      have HB1 := Lib.hid (keep2 b1 HB.out)
      clear b1
      have x0 := HV1.out.c 0 rfl
      have x1 := HV1.out.c 1 rfl
      have x2 := HV1.out.c 2 rfl
      have y0 := HL1.out.c 0 rfl
      have y1 := HL1.out.c 1 rfl
      have y2 := HL1.out.c 2 rfl
      go_wp2_with fail
      refine (HG.out _).mono ?_
      rintro e w2 ⟨rfl, b2⟩
      have HO2 := Lib.hid (HO1.out.step b2)
      have HB2 := Lib.hid (keep2 b2 HB1.out)
      have hz3 : w.heap.size + 1 + 1 < w2.heap.size := HO2.out.2.2
      clear x0 x1 x2 y0 y1 y2 b2
      have y0 := HO2.out.c 0 rfl
      have y1 := HO2.out.c 1 rfl
      have y2 := HO2.out.c 2 rfl
      have z0 := HO2.out.f 0 (by simp)
      have z1 := HO2.out.f 1 (by simp)
      have z2 := HO2.out.f 2 (by simp)
      go_wp2
      exact bodyPost_ret (v := .tuple #[.agg #[.int .i64 f, .int .i64 h, .int .i64 (grU vh vu h u)], .bool true]) (by simp [results, Try.results29, go_sem, y0, y1, y2]) rfl ⟨rfl, (by repeat (first | with_reducible exact HB2.out | with_reducible exact Below.refl _ _ | ((with_reducible refine Below.setCell ?_ ?_ _); rotate_left; focus (first | (simp; done) | (simp; omega) | omega)) | ((with_reducible refine Below.alloc ?_ ?_ _); rotate_left; focus (first | (simp; done) | (simp; omega) | omega)) | with_reducible refine Below.trans ?_ (below_drewN' _ _ _) | with_reducible refine Below.trans ?_ (below_drew _ _)))⟩
theorem votedV_is (vf vh vu h f u now : Int) : ∃ a b c : Int, votedV vf vh vu h f u now = #[.int .i64 a, .int .i64 b, .int .i64 c] := by
  unfold votedV; split <;> exact ⟨_, _, _, rfl⟩
set_option maxRecDepth 100000 in
set_option maxHeartbeats 2000000 in
theorem evote_any (vf vh vu h f u now : Int) (w : World) : Calls Try.prog 15 #[.agg #[.int .i64 h, .int .i64 f, .int .i64 u, .int .i64 now], .agg (vtc vf vh vu)] w fun e w' => e = .returned (.agg (votedV vf vh vu h f u now)) ∧ Below w.heap.size w w' := by
  have HO := Lib.hid (Cs.new ((w.alloc (.cells #[.int .i64 h, .int .i64 f, .int .i64 u, .int .i64 now] 61)).alloc (.cells (vtc vf vh vu) 64)) (w.heap.size + 1 + 1) (vtc 0 0 0) 64 (by simp))
  have HB := Lib.hid (al3 (w := w) (o1 := .cells #[.int .i64 h, .int .i64 f, .int .i64 u, .int .i64 now] 61) (o2 := .cells (vtc vf vh vu) 64) (o3 := .cells (vtc 0 0 0) 64))
  have HC := Lib.hid (vote_any vf vh vu h f u now)
  obtain ⟨a, b, c, hq⟩ := votedV_is vf vh vu h f u now
  rw [hq]
  rw [hq] at HC
  clear hq
  unfold vtc lsc at *
  go_enter Try.func15, Try.ntmps15
  go_wp2_with fail
  refine (HC.out _).mono ?_
  rintro e w1 ⟨rfl, b1⟩
  have HO1 := Lib.hid (HO.out.step b1)
  have HB1 := Lib.hid (keep2 b1 HB.out)
  have hz3 : w.heap.size + 1 + 1 < w1.heap.size := HO1.out.2.2
  clear b1
  have y0 := HO1.out.c 0 rfl
  have y1 := HO1.out.c 1 rfl
  have y2 := HO1.out.c 2 rfl
  have z0 := HO1.out.f 0 (by simp)
  have z1 := HO1.out.f 1 (by simp)
  have z2 := HO1.out.f 2 (by simp)
  go_wp2
  exact bodyPost_ret (v := .agg #[.int .i64 a, .int .i64 b, .int .i64 c]) (by simp [results, Try.results15, go_sem, y0, y1, y2, hz3]) rfl ⟨rfl, (by repeat (first | with_reducible exact HB1.out | with_reducible exact Below.refl _ _ | ((with_reducible refine Below.setCell ?_ ?_ _); rotate_left; focus (first | (simp; done) | (simp; omega) | omega)) | ((with_reducible refine Below.alloc ?_ ?_ _); rotate_left; focus (first | (simp; done) | (simp; omega) | omega)) | with_reducible refine Below.trans ?_ (below_drewN' _ _ _) | with_reducible refine Below.trans ?_ (below_drew _ _)))⟩
set_option maxRecDepth 100000 in
set_option maxHeartbeats 2000000 in
theorem efit_any (vf vh vu h f u now : Int) (b1 b2 : Nat) (w : World) (t1 : 0 ≤ now) (t2 : now ≤ 1000000000) (hl : Cs w b1 (lsc h f u)) (hn : Cs w b2 #[.int .i64 now]) :
    Calls Try.prog 18 #[.agg (vtc vf vh vu), .pointer (some ⟨b1, 0, none⟩), .pointer (some ⟨b2, 0, none⟩)] w fun e w' => e = .returned (.bool (agB vf vh vu h f u now)) ∧ Below w.heap.size w w' := by
  have HC := Lib.hid (fun w => agrees_any vf vh vu h f u now w t1 t2)
  have x0 := hl.c 0 rfl
  have x1 := hl.c 1 rfl
  have x2 := hl.c 2 rfl
  have x3 := hl.2.2
  have y0 := hn.c 0 rfl
  have y1 := hn.2.2
  clear hl hn t1 t2
  unfold vtc lsc at *
  go_enter Try.func18, Try.ntmps18
  go_wp2_with fail
  refine (HC.out _).mono ?_
  rintro e w1 ⟨rfl, b1⟩
  have B1 := Lib.hid b1
  clear b1 x0 x1 x2 y0
  go_wp2
  go_ret
  exact ⟨rfl, keep2 B1.out (al _ _)⟩
def hoB (f u now : Int) : Bool := decide (0 < f) && tmB now && decide (now < u)
open Go.RowKit

/-- A voter. -/
structure Vo where
  f : Int
  h : Int
  u : Int
def zV : Vo := ⟨0, 0, 0⟩
instance : Inhabited Vo := ⟨zV⟩
/-- A list of voters, and one of answers, behind a slice. -/
def VosAt (w : World) (v : Value) (l : List Vo) : Prop :=
  ∃ a cap, v = .slice a l.length cap ∧ l.length ≤ maxLen ∧ (l ≠ [] → ∃ b off, a = some ⟨b, off, none⟩ ∧ ∀ (i : Nat) (x : Vo), l[i]? = some x →
    w.cell? ⟨b, off + i * 3, none⟩ = some (.int .i64 x.f) ∧ w.cell? ⟨b, off + i * 3 + 1, none⟩ = some (.int .i64 x.h) ∧ w.cell? ⟨b, off + i * 3 + 2, none⟩ = some (.int .i64 x.u))
def BosAt (w : World) (v : Value) (l : List Bool) : Prop :=
  ∃ a cap, v = .slice a l.length cap ∧ l.length ≤ maxLen ∧ (l ≠ [] → ∃ b off, a = some ⟨b, off, none⟩ ∧ ∀ (i : Nat) (x : Bool), l[i]? = some x → w.cell? ⟨b, off + i, none⟩ = some (.bool x))
theorem VosAt.step {w w1 : World} {v : Value} {l : List Vo} (h : VosAt w v l) (hb : Below w.heap.size w w1) : VosAt w1 v l := by
  obtain ⟨a, cap, hv, hm, hc⟩ := h
  refine ⟨a, cap, hv, hm, fun hl => ?_⟩
  obtain ⟨b, off, ha, hx⟩ := hc hl
  exact ⟨b, off, ha, fun i x h => ⟨keep1 hb (hx i x h).1, keep1 hb (hx i x h).2.1, keep1 hb (hx i x h).2.2⟩⟩
theorem BosAt.step {w w1 : World} {v : Value} {l : List Bool} (h : BosAt w v l) (hb : Below w.heap.size w w1) : BosAt w1 v l := by
  obtain ⟨a, cap, hv, hm, hc⟩ := h
  refine ⟨a, cap, hv, hm, fun hl => ?_⟩
  obtain ⟨b, off, ha, hx⟩ := hc hl
  exact ⟨b, off, ha, fun i x h => keep1 hb (hx i x h)⟩
theorem vos_nil (w : World) : VosAt w (.slice none 0 0) [] := ⟨none, 0, rfl, by simp, fun h => absurd rfl h⟩
theorem bos_nil (w : World) : BosAt w (.slice none 0 0) [] := ⟨none, 0, rfl, by simp, fun h => absurd rfl h⟩
theorem vo_get {l : List Vo} {k : Nat} (h : k < l.length) : l[k]? = some (l.getD k zV) := by simp [h]
theorem bo_get {l : List Bool} {k : Nat} (h : k < l.length) : l[k]? = some (l.getD k false) := by simp [h]
/-- The cells of a list of voters. -/
def Vo.cells (x : Vo) : List Value := [.int .i64 x.f, .int .i64 x.h, .int .i64 x.u]
def vcs (l : List Vo) : List Value := l.flatMap Vo.cells
theorem vcs_app (l m : List Vo) : vcs (l ++ m) = vcs l ++ vcs m := by simp [vcs]
theorem vcs_one (x : Vo) : vcs [x] = [.int .i64 x.f, .int .i64 x.h, .int .i64 x.u] := by simp [vcs, Vo.cells]
theorem vcs_get (l : List Vo) : ∀ (i : Nat) (x : Vo), l[i]? = some x → ∀ j, j < 3 → (vcs l)[i * 3 + j]? = x.cells[j]? := by
  induction l with
  | nil => intro i x h; simp at h
  | cons y l ih =>
    intro i x h j hj
    have hs : vcs (y :: l) = y.cells ++ vcs l := by simp [vcs]
    rw [hs]
    cases i with
    | zero =>
      simp at h; subst h
      rw [List.getElem?_append_left (by simp [Vo.cells]; omega)]
      simp
    | succ i =>
      rw [List.getElem?_append_right (by simp [Vo.cells]; omega)]
      have := ih i x (by simpa using h) j hj
      rw [← this]
      congr 1
      simp [Vo.cells]; omega
theorem vos_of_row {w : World} {base n : Nat} {v : Value} {l : List Vo} (hn : n = l.length) (hl : l.length ≤ maxLen) (h : w.ownsRow base 64 3 v n (vcs l)) : VosAt w v l := by
  subst hn
  have hc := fun g (hg : v.ownBlock = some g) => h.cells hg
  rcases h.2 with ⟨rfl, h0⟩ | ⟨g, cap, cur, rfl, -⟩
  · have : l = [] := List.length_eq_zero_iff.1 h0
    subst this
    exact vos_nil _
  · refine ⟨some ⟨g, 0, none⟩, cap, rfl, hl, fun _ => ⟨g, 0, rfl, fun i x hi => ?_⟩⟩
    have hj := fun j (hj : j < 3) u (hu : x.cells[j]? = some u) => hc g rfl (i * 3 + j) u ((vcs_get l i x hi j hj).trans hu)
    simp only [Go.WideShapes.add_plain] at hj
    exact ⟨hj 0 (by omega) _ rfl, hj 1 (by omega) _ rfl, hj 2 (by omega) _ rfl⟩
theorem cell_three_new (W : World) (a b c : Value) (T : TypeId) (n : Nat) (hn : n = W.heap.size) : ∀ j u, [a, b, c][j]? = some u → (W.alloc (.cells #[a, b, c] T)).cell? ((⟨n, 0, none⟩ : Addr).add j) = some u := by
  subst hn
  intro j u hu
  rw [Go.WideShapes.add_plain, World.cell?_alloc_new]
  simpa using hu
theorem info25 : (Try.prog.info? 64).map (fun i => (i.zero, i.size, i.bytes)) = some (some (.agg #[.int .i64 0, .int .i64 0, .int .i64 0]), 3, 24) := by kernel_rfl

/-- The voters among the first k that answer. -/
def yesN (L : List Vo) (A : List Bool) : Nat → List Vo
  | 0 => []
  | k + 1 => yesN L A k ++ (if A.getD k false then [L.getD k zV] else [])
theorem yesN_len (L : List Vo) (A : List Bool) : ∀ k, (yesN L A k).length ≤ k
  | 0 => by simp [yesN]
  | k + 1 => by
    have := yesN_len L A k
    rw [yesN, List.length_append]
    split <;> simp <;> omega
theorem yesN_yes {L : List Vo} {A : List Bool} {k : Nat} (h : A.getD k false = true) : yesN L A (k + 1) = yesN L A k ++ [L.getD k zV] := by rw [yesN, h]; rfl
theorem yesN_no {L : List Vo} {A : List Bool} {k : Nat} (h : A.getD k false = false) : yesN L A (k + 1) = yesN L A k := by rw [yesN, h]; simp
set_option maxRecDepth 100000 in
set_option maxHeartbeats 4000000 in
theorem answering_any (v va : Value) (L : List Vo) (A : List Bool) (w : World) (hl : VosAt w v L) (ha : BosAt w va A) (hn : A.length = L.length) (h9 : L.length ≤ 1000) :
    Calls Try.prog 17 #[v, va] w fun e w' => ∃ u, e = .returned u ∧ VosAt w' u (yesN L A L.length) ∧ Below w.heap.size w w' := by
  have HL := Lib.hid hl
  have HA := Lib.hid ha
  obtain ⟨a, cap, rfl, -, -⟩ := hl
  obtain ⟨aa, capa, rfl, -, -⟩ := ha
  have HN := Lib.hid hn
  clear hn
  obtain ⟨i0, hi, hz0, hz1, hz2⟩ := info_parts info25
  go_enter Try.func17, Try.ntmps17
  go_wp2_with fail
  go_loopw [5, 10] (fun v i wr => ∃ k : Nat, k ≤ L.length ∧ i = .int .i64 k ∧ Hid (wr.ownsRow w.heap.size 64 3 v (yesN L A k).length (vcs (yesN L A k))) ∧ Hid (Below w.heap.size w wr)) (fun _ i _ => L.length - (intOf i).toNat)
  case atStart => exact ⟨0, by omega, rfl, World.ownsRow_nil _ _ _ _, Below.refl _ _⟩
  case round =>
    obtain ⟨k, hk, rfl, HR, HB⟩ := hrel
    have hsz := HB.out.size
    by_cases hlt : k < L.length
    · obtain ⟨a2, cap2, hva, -, hcs⟩ := HL.out.step HB.out
      obtain ⟨rfl, rfl⟩ : a = a2 ∧ cap = cap2 := by simpa using hva
      obtain ⟨b, off, rfl, hcs2⟩ := hcs (by intro h; rw [h] at hlt; simp at hlt)
      obtain ⟨a3, cap3, hvb, -, hct⟩ := HA.out.step HB.out
      obtain ⟨rfl, rfl⟩ : aa = a3 ∧ capa = cap3 := by simpa using hvb
      obtain ⟨b2, off2, rfl, hct2⟩ := hct (by intro h; have := HN.out; rw [h] at this; simp at this; omega)
      have hlta : k < A.length := by rw [HN.out]; exact hlt
      obtain ⟨x0, x1, x2⟩ := hcs2 k _ (vo_get hlt)
      have y0 := hct2 k _ (bo_get hlta)
      have HY := Lib.hid (yesN_len L A k)
      have z0 : off2 + k < off2 + A.length := by omega
      have yb := World.block_lt_of_cell? _ _ y0
      have yb : b2 < wr.heap.size := yb
      clear hcs hct hva hvb hcs2 hct2
      cases hA : A.getD k false
      · have HT := Lib.hid (yesN_no (L := L) hA)
        rw [hA] at y0
        clear hA
        have HB1 := Lib.hid (HB.out.alloc hsz (.cells #[.int .i64 (L.getD k zV).f, .int .i64 (L.getD k zV).h, .int .i64 (L.getD k zV).u] 64))
        have HR1 := Lib.hid (HR.out.alloc (.cells #[.int .i64 (L.getD k zV).f, .int .i64 (L.getD k zV).h, .int .i64 (L.getD k zV).u] 64))
        generalize L.getD k zV = x at *
        go_wp2
        go_roundw
        case rel => exact ⟨k + 1, by omega, by go_num, by rw [HT.out]; exact HR1, HB1⟩
        case measure => simp [intOf]; omega
      · have HT := Lib.hid (yesN_yes (L := L) hA)
        rw [hA] at y0
        clear hA
        have HB1 := Lib.hid (HB.out.alloc hsz (.cells #[.int .i64 (L.getD k zV).f, .int .i64 (L.getD k zV).h, .int .i64 (L.getD k zV).u] 64))
        have HR1 := Lib.hid (HR.out.alloc (.cells #[.int .i64 (L.getD k zV).f, .int .i64 (L.getD k zV).h, .int .i64 (L.getD k zV).u] 64))
        generalize L.getD k zV = x at *
        have HY2 := HY.out
        go_wp2_with (at_builtin; refine wpList_append_own _ rfl _ _ 24 rfl w.heap.size 64 i0 _ 3 24 Try.underlying24 hi hz0 hz1 hz2 rfl (by decide) _ _ _ rfl (HR1.out.alloc _) ⟨wr.heap.size + 1, 0, none⟩ 1 1 [.int .i64 x.f, .int .i64 x.h, .int .i64 x.u] rfl rfl (cell_three_new _ _ _ _ _ _ (by simp)) (by simp [Value.oneCell']) (by unfold maxLen; omega) (by omega) (by simp; omega) ?_; intro v' w1 hown hgrow _; have HR2 := Lib.hid hown; have HB2 := Lib.hid (below_own (Nat.le_refl _) HB1.out HR1.out hgrow); clear hown hgrow)
        go_roundw
        case rel => exact ⟨k + 1, by omega, by go_num, by rw [HT.out, vcs_app, vcs_one, List.length_append]; exact HR2, HB2⟩
        case measure => simp [intOf]; omega
    · obtain rfl : k = L.length := by omega
      have HQ := Lib.hid (vos_of_row rfl (by have := yesN_len L A L.length; unfold maxLen; omega) HR.out)
      go_wp2
      go_ret
      exact ⟨_, rfl, HQ.out, HB.out⟩
end Go.Proofs.Ytnanndmpbecdiaa
