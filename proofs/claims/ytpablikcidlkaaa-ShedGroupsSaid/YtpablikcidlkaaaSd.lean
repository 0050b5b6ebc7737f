/- Shedding: consumers in memory; how two of them compare. -/
import Derived.Test.YtpablikcidlkaaaSc
import Derived.StillTailTactics
namespace Go.Proofs.Ytpablikcidlkaaa
open Go.RowKit

/-- A list of consumers behind a slice: power, priority. -/
def ConsAt (w : World) (v : Value) (l : List (Int × Int)) : Prop :=
  ∃ a cap, v = .slice a l.length cap ∧ l.length ≤ cap ∧ l.length ≤ maxLen ∧ (l ≠ [] → ∃ b off, a = some ⟨b, off, none⟩ ∧ ∀ (i : Nat) (x : Int × Int), l[i]? = some x →
    w.cell? ⟨b, off + i * 2, none⟩ = some (.int .i64 x.1) ∧ w.cell? ⟨b, off + i * 2 + 1, none⟩ = some (.int .i64 x.2))
theorem ConsAt.step {w w1 : World} {v : Value} {l : List (Int × Int)} (h : ConsAt w v l) (hb : Below w.heap.size w w1) : ConsAt w1 v l := by
  obtain ⟨a, cap, hv, h1, hm, hc⟩ := h
  refine ⟨a, cap, hv, h1, hm, fun hl => ?_⟩
  obtain ⟨b, off, ha, hx⟩ := hc hl
  exact ⟨b, off, ha, fun i x h => ⟨keep1 hb (hx i x h).1, keep1 hb (hx i x h).2⟩⟩
theorem cons_nil (w : World) : ConsAt w (.slice none 0 0) [] := ⟨none, 0, rfl, by simp, by simp, fun h => absurd rfl h⟩
theorem win_get {α : Type} {l : List α} {k : Nat} {d : α} (h : k < l.length) : l[k]? = some (l.getD k d) := by simp [h]
def pow (l : List (Int × Int)) (i : Nat) : Int := (l.getD i (0, 0)).1
def pri (l : List (Int × Int)) (i : Nat) : Int := (l.getD i (0, 0)).2
/-- A block lies whole. -/
def BoxN (W : World) (B : Nat) (vs : Array Value) (t : TypeId) : Prop := W.heap[B]? = some (.cells vs t (0, 0))
theorem BoxN.lt {W : World} {B : Nat} {t : TypeId} {vs : Array Value} (h : BoxN W B vs t) : B < W.heap.size := (Array.getElem?_eq_some_iff.1 h).1
theorem BoxN.cell {W : World} {B : Nat} {t : TypeId} {vs : Array Value} (h : BoxN W B vs t) (j : Nat) : W.cell? ⟨B, j, none⟩ = vs[j]? := by simp [World.cell?, show W.heap[B]? = _ from h]
theorem BoxN.new (W : World) (vs : Array Value) (t : TypeId) {n : Nat} (hn : n = W.heap.size) : BoxN (W.alloc (.cells vs t)) n vs t := by subst hn; exact heap_alloc_new W _
theorem BoxN.step {W W' : World} {B : Nat} {t : TypeId} {vs : Array Value} (h : BoxN W B vs t) (hb : Below W.heap.size W W') : BoxN W' B vs t := (hb.block B h.lt).trans h
def cmI (u v : Int) : Int := if u < v then -1 else if v < u then 1 else 0
theorem cmI_neg (u v : Int) : decide (cmI u v < 0) = decide (u < v) := by
  unfold cmI
  rw [Bool.eq_iff_iff, decide_eq_true_iff, decide_eq_true_iff]
  split
  · rename_i h; simp [h]
  · rename_i h; split <;> simp [h]
theorem isNaN_any (x : Int) (w : World) : Calls Try.prog 39 #[.int .i64 x] w fun e w' => e = .returned (.bool false) ∧ w = w' := by
  go_enter Try.func39, Try.ntmps39
  go_wp2
  go_ret
  exact ⟨by simp, rfl⟩
theorem compare_any (x y : Int) (w : World) : Calls Try.prog 35 #[.int .i64 x, .int .i64 y] w fun e w' => e = .returned (.int .i64 (cmI x y)) ∧ w = w' := by
  by_cases h1 : x < y
  · have HR := Lib.hid (show cmI x y = -1 by unfold cmI; rw [if_pos h1])
    go_enter Try.func35, Try.ntmps35
    go_wp2_with (go_at_call 39; refine (isNaN_any _ _).mono ?_; rintro e w' ⟨rfl, rfl⟩)
    go_ret
    exact ⟨ret_int HR.out.symm, rfl⟩
  · by_cases h2 : y < x
    · have HR := Lib.hid (show cmI x y = 1 by unfold cmI; rw [if_neg h1, if_pos h2])
      go_enter Try.func35, Try.ntmps35
      go_wp2_with (go_at_call 39; refine (isNaN_any _ _).mono ?_; rintro e w' ⟨rfl, rfl⟩)
      go_ret
      exact ⟨ret_int HR.out.symm, rfl⟩
    · have HR := Lib.hid (show cmI x y = 0 by unfold cmI; rw [if_neg h1, if_neg h2])
      go_enter Try.func35, Try.ntmps35
      go_wp2_with (go_at_call 39; refine (isNaN_any _ _).mono ?_; rintro e w' ⟨rfl, rfl⟩)
      go_ret
      exact ⟨ret_int HR.out.symm, rfl⟩
theorem byPri_any (p q r s : Int) (w : World) : Calls Try.prog 34 #[.agg #[.int .i64 p, .int .i64 q], .agg #[.int .i64 r, .int .i64 s]] w fun e w' => e = .returned (.int .i64 (cmI s q)) ∧ Below w.heap.size w w' := by
  have HB := Lib.hid (al2 (w := w) (o1 := .cells #[.int .i64 p, .int .i64 q] 34) (o2 := .cells #[.int .i64 r, .int .i64 s] 34))
  go_enter Try.func34, Try.ntmps34
  go_wp2_with fail
  refine (compare_any s q _).mono ?_
  rintro e w' ⟨rfl, rfl⟩
  go_wp2
  go_ret
  exact ⟨rfl, HB.out⟩
set_option maxRecDepth 100000 in
set_option maxHeartbeats 4000000 in
theorem cmp_any (b1 b2 : Nat) (v : Value) (l : List (Int × Int)) (x y : Nat) (w : World) (h : ConsAt w v l) (h1 : BoxN w b1 #[.func (.func 34) #[] #[]] 58) (h2 : BoxN w b2 #[v] 22) (hx : x < l.length) (hy : y < l.length) :
    Calls Try.prog 38 #[.int .i64 x, .int .i64 y, .pointer (some ⟨b1, 0, none⟩), .pointer (some ⟨b2, 0, none⟩)] w fun e w' => e = .returned (.int .i64 (cmI (pri l y) (pri l x))) ∧ Below w.heap.size w w' := by
  obtain ⟨a, c, rfl, -, hm, hc⟩ := h
  obtain ⟨b, off, rfl, hcs⟩ := hc (by intro e; rw [e] at hx; simp at hx)
  have c1 := (h1.cell 0).trans (rfl : _ = some (Value.func (.func 34) #[] #[]))
  have c2 := (h2.cell 0).trans (rfl : _ = some (Value.slice (some ⟨b, off, none⟩) l.length c))
  have z1 := h1.lt
  have z2 := h2.lt
  obtain ⟨x0, x1⟩ := hcs x _ (win_get (d := (0, 0)) hx)
  obtain ⟨y0, y1⟩ := hcs y _ (win_get (d := (0, 0)) hy)
  have z3 : b < w.heap.size := World.block_lt_of_cell? _ _ x0
  clear h1 h2 hc hcs
  unfold pri
  generalize l.getD x (0, 0) = p at *
  generalize l.getD y (0, 0) = q at *
  obtain ⟨px, pq⟩ := p
  obtain ⟨qx, qq⟩ := q
  simp only at x0 x1 y0 y1
  show Calls _ _ _ _ fun e w' => e = .returned (.int .i64 (cmI qq pq)) ∧ _
  have heg : ∀ args w, (callFunc 34 args).run Try.prog w = .ok (.enter 34 args) w := fun _ _ => by kernel_rfl
  unfold maxLen at hm
  go_enter Try.func38, Try.ntmps38
  go_wp2_with fail
  go_still_tail 9, (by kernel_rfl)
  change wpList _ _ _ _ _ w.drew
  obtain ⟨w2, hw2⟩ : ∃ z, w.drew = z := ⟨_, rfl⟩
  have b0 : Below w.heap.size w w2 := by rw [← hw2]; exact below_drew _ _
  rw [hw2]
  clear hw2
  go_wp2_with fail
  refine (byPri_any px pq qx qq _).mono ?_
  rintro e w3 ⟨rfl, b3⟩
  have HB3 := Lib.hid (keep2 b3 b0)
  clear b3 b0
  go_wp2
  go_ret
  exact ⟨rfl, HB3.out⟩
/-- The comparison, wherever the sort may be. -/
def CmpOK (l : List (Int × Int)) (g b1 b2 : Nat) (W0 : World) : Prop := ∀ W, Below g W0 W → ∀ x y : Nat, x < l.length → y < l.length →
  Calls Try.prog 38 #[.int .i64 x, .int .i64 y, .pointer (some ⟨b1, 0, none⟩), .pointer (some ⟨b2, 0, none⟩)] W fun e w' => e = .returned (.int .i64 (cmI (pri l y) (pri l x))) ∧ Below W.heap.size W w'
theorem CmpOK.step {l : List (Int × Int)} {g b1 b2 : Nat} {W0 W : World} (h : CmpOK l g b1 b2 W0) (hb : Below g W0 W) : CmpOK l g b1 b2 W := fun W' hb' x y hx hy => h W' (hb.trans hb') x y hx hy
theorem cmp_ok {l : List (Int × Int)} {v : Value} {g b1 b2 : Nat} {W0 : World} (h : ConsAt W0 v l) (h1 : BoxN W0 b1 #[.func (.func 34) #[] #[]] 58) (h2 : BoxN W0 b2 #[v] 22) (hg : W0.heap.size ≤ g) : CmpOK l g b1 b2 W0 := fun W hb x y hx hy =>
  cmp_any b1 b2 v l x y W (h.step (hb.mono hg)) (h1.step (hb.mono hg)) (h2.step (hb.mono hg)) hx hy
end Go.Proofs.Ytpablikcidlkaaa
