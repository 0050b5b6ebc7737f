/- Quiet hours: the iterator over changes. -/
import Derived.RangeFuncNested
import Derived.RangeFuncBound
import Derived.RangeFuncCalls
import Derived.RangeFuncLeaves
import Derived.RangeFuncBox
import Derived.TacticsInMore
import Derived.LoopNIn
import Derived.LoopIn
import Derived.OwnWalkIn
import Derived.Test.YtmejpmnipejpiaaHf
namespace Go.Proofs.Ytmejpmnipejpiaa
open Go.RowKit
attribute [local go_sem] Oper.semAt_some

theorem grown_of_below {w w' : World} (h : Below w.heap.size w w') : w.grownBy w' none :=
  ⟨h.os, h.tape, h.output, h.size, fun k hk _ => h.block k hk⟩
/-- A block lies whole. -/
def BoxN (W : World) (B : Nat) (vs : Array Value) (t : TypeId) : Prop := W.heap[B]? = some (.cells vs t (0, 0))
theorem BoxN.lt {W : World} {B : Nat} {t : TypeId} {vs : Array Value} (h : BoxN W B vs t) : B < W.heap.size := (Array.getElem?_eq_some_iff.1 h).1
theorem BoxN.cell {W : World} {B : Nat} {t : TypeId} {vs : Array Value} (h : BoxN W B vs t) (j : Nat) : W.cell? ⟨B, j, none⟩ = vs[j]? := by simp [World.cell?, show W.heap[B]? = _ from h]
theorem BoxN.frozen {W : World} {B : Nat} {t : TypeId} {vs : Array Value} (h : BoxN W B vs t) (j : Nat) : W.frozen? ⟨B, j, none⟩ = false := frozen_of_row _ _ _ _ _ h
theorem BoxN.new (W : World) (vs : Array Value) (t : TypeId) {n : Nat} (hn : n = W.heap.size) : BoxN (W.alloc (.cells vs t)) n vs t := by subst hn; exact World.alloc_heap_new W _
theorem BoxN.step {W W' : World} {B : Nat} {t : TypeId} {vs : Array Value} (h : BoxN W B vs t) (hb : Below W.heap.size W W') : BoxN W' B vs t := (hb.block B h.lt).trans h
theorem BoxN.set {W : World} {B j : Nat} {t : TypeId} {vs vs' : Array Value} {v : Value} (h : BoxN W B vs t) (hv : vs.setIfInBounds j v = vs') : BoxN (W.setCell ⟨B, j, none⟩ v) B vs' t := by
  unfold BoxN
  rw [heap_setCell_same _ _ _ _ _ _ h, hv]
theorem BoxN.other {W : World} {B B' : Nat} {t : TypeId} {vs : Array Value} (h : BoxN W B vs t) (hne : B ≠ B') (j : Nat) (u : Value) : BoxN (W.setCell ⟨B', j, none⟩ u) B vs t := (heap_setCell_other _ _ _ _ hne).trans h
/-- Blocks below n0 but for b lie as they lay. -/
def Blk (b n0 : Nat) (w w' : World) : Prop := Below b w w' ∧ ∀ k, b < k → k < n0 → w'.heap[k]? = w.heap[k]?
theorem Blk.refl (b n0 : Nat) (w : World) : Blk b n0 w w := ⟨Below.refl _ _, fun _ _ _ => rfl⟩
theorem Blk.trans {b n0 : Nat} {x y z : World} (h : Blk b n0 x y) (k : Blk b n0 y z) : Blk b n0 x z := ⟨h.1.trans k.1, fun j h1 h2 => (k.2 j h1 h2).trans (h.2 j h1 h2)⟩
theorem Blk.of_below {b n0 : Nat} {w w' : World} (h : Below n0 w w') (hB : b ≤ n0) : Blk b n0 w w' := ⟨h.mono hB, fun k _ h2 => h.block k h2⟩
theorem Blk.set {b n0 j : Nat} {w w' : World} {v : Value} (h : Blk b n0 w w') : Blk b n0 w (w'.setCell ⟨b, j, none⟩ v) :=
  ⟨h.1.setCell (p := ⟨b, j, none⟩) (Nat.le_refl _) v, fun k h1 h2 => (heap_setCell_other w' _ _ _ (by simp; omega)).trans (h.2 k h1 h2)⟩
theorem Blk.boxN {b n0 B : Nat} {w w' : World} {t : TypeId} {vs : Array Value} (h : Blk b n0 w w') (k : BoxN w B vs t) (h1 : b < B) (h2 : B < n0) : BoxN w' B vs t := (h.2 B h1 h2).trans k
theorem Blk.boxA {b n0 B : Nat} {w w' : World} {f : Nat → Bool} (h : Blk b n0 w w') (k : BoxA w B f) (h1 : b < B) (h2 : B < n0) : BoxA w' B f := (h.2 B h1 h2).trans k
theorem Blk.putObj {b n0 : Nat} {w : World} (hn : n0 ≤ w.heap.size) (hb : b ≤ n0) (W : World) (l : Nat) (o o' : Obj) (hl : w.heap.size ≤ l) (h : W.heap[l]? = some o) (hc : o.isCells = false) (hw : o.isWalk = false) : Blk b n0 W (W.putObj l o') :=
  Blk.of_below (belowK_b hn W l o o' hl h hc hw) hb
/-- The value at a minute. -/
def gF (f : Nat → Bool) (m : Int) : Bool := f (m % 1440).toNat
theorem at_g (B : Nat) (f : Nat → Bool) (m : Int) (x : Bool) (hx : gF f m = x) (w : World) (h : BoxA w B f) (hm1 : -2000000000 ≤ m) (hm2 : m ≤ 2000000000) : Calls Try.prog 27 #[.pointer (some ⟨B, 0, none⟩), .int .i64 m] w fun e w' => e = .returned (.bool x) ∧ w = w' := by
  subst hx; exact at_any B f m w h hm1 hm2
def cvl (x : Int × Bool) : Value := .agg #[.int .i64 x.1, .bool x.2]
theorem chs_pre (g : Int → Bool) (m : Int) {i n : Nat} (h : i ≤ n) : chs g m i <+: chs g m n := by
  obtain ⟨d, rfl⟩ : ∃ d, n = i + d := ⟨n - i, by omega⟩
  exact ⟨_, (chs_add g m i d).symm⟩
set_option maxRecDepth 100000 in
set_option maxHeartbeats 4000000 in
theorem iter1 (f : Nat → Bool) (m : Int) (N : Nat) (hm1 : -1000000000 ≤ m) (hm2 : m ≤ 1000000000) (hN : N ≤ 20000) (w0 : World) (b n0 BQ B1 B2 B3 : Nat) (hbs : b < BQ ∧ b < B1 ∧ b < B2 ∧ b < B3) (hns : BQ < n0 ∧ B1 < n0 ∧ B2 < n0 ∧ B3 < n0)
    (hQ : BoxA w0 BQ f) (h1 : BoxN w0 B1 #[.pointer (some ⟨BQ, 0, none⟩)] 51) (h2 : BoxN w0 B2 #[.int .i64 m] 3) (h3 : BoxN w0 B3 #[.int .i64 N] 3) (n lp : Nat) (J Jx : List (Int × Bool) → World → Prop)
    (hY : ∀ pre x W, J pre W → pre.length < N → YieldAt Fence.wide (n - 1) Try.prog lp #[cvl x] W fun e W' =>
      (e = .returned (.bool true) ∧ J (pre ++ [x]) W' ∧ Blk b n0 W W') ∨ (e = .returned (.bool false) ∧ Jx (pre ++ [x]) W'))
    (W : World) (hB0 : Blk b n0 w0 W) (h0 : J [] W) (hn : 1 ≤ n) :
    CallsIn Fence.wide n Try.prog 29 #[.func (.yield lp) #[] #[], .pointer (some ⟨B1, 0, none⟩), .pointer (some ⟨B2, 0, none⟩), .pointer (some ⟨B3, 0, none⟩)] W fun e W' => (∃ v, e = .returned v) ∧
      ((∃ ys, ys = chs (gF f) m N ∧ J ys W') ∨ (∃ pre, pre <+: chs (gF f) m N ∧ Jx pre W')) := by
  have HY := Lib.hid hY
  have HX := Lib.hid (fun (w' : World) (hb : Blk b n0 w0 w') => show BoxA w' BQ f ∧ BoxN w' B1 #[.pointer (some ⟨BQ, 0, none⟩)] 51 ∧ BoxN w' B2 #[.int .i64 m] 3 ∧ BoxN w' B3 #[.int .i64 N] 3 from
    ⟨hb.boxA hQ hbs.1 hns.1, hb.boxN h1 hbs.2.1 hns.2.1, hb.boxN h2 hbs.2.2.1 hns.2.2.1, hb.boxN h3 hbs.2.2.2 hns.2.2.2⟩)
  have HB0 := Lib.hid hB0
  have HJ0 := Lib.hid h0
  clear hY hB0 h0 h1 h2 h3 hQ hbs hns
  obtain ⟨a0, a1, a2, a3⟩ := HX.out _ HB0.out
  have c1 := (a1.cell 0).trans (rfl : _ = some (Value.pointer (some ⟨BQ, 0, none⟩)))
  have c2 := (a2.cell 0).trans (rfl : _ = some (Value.int .i64 m))
  have c3 := (a3.cell 0).trans (rfl : _ = some (Value.int .i64 (N : Int)))
  have HA0 := Lib.hid a0
  clear a0 a1 a2 a3
  obtain ⟨g0, hg0⟩ : ∃ z, gF f m = z := ⟨_, rfl⟩
  have HG0 := Lib.hid hg0
  clear hg0
  refine callsIn_of_wp Try.func29 rfl trivial ?_ rfl
  simp only [Try.ntmps29, List.size_toArray, List.length_cons, List.length_nil, Nat.reduceAdd, Nat.reduceSub, Array.replicate_succ, Array.replicate_zero, List.push_toArray, List.append_toArray, List.nil_append, List.cons_append]
  gi_wp2_with (refine ⟨trivial, ?_⟩; gi_at_call 27; refine (callsIn_wide.2 (at_g BQ f m _ HG0.out _ HA0.out (by omega) (by omega))).mono ?_; rintro e w1 ⟨rfl, rfl⟩)
  clear c1 c2 c3 HA0
  gi_loopw [5, 12] (fun bv iv wr => ∃ i : Nat, i ≤ N ∧ iv = .int .i64 i ∧ bv = .bool (gF f (m + i)) ∧ Hid (J (chs (gF f) m i) wr) ∧ Hid (Blk b n0 w0 wr)) (fun _ iv _ => N - (intOf iv).toNat)
  case atStart => exact ⟨0, by omega, rfl, by rw [← HG0.out]; simp, HJ0, HB0⟩
  case round =>
    clear HJ0 HB0 HG0
    obtain ⟨i, hi, rfl, rfl, HJ, HB⟩ := hrel
    by_cases hlt : i < N
    · obtain ⟨a0, a1, a2, a3⟩ := HX.out _ HB.out
      have c1 := (a1.cell 0).trans (rfl : _ = some (Value.pointer (some ⟨BQ, 0, none⟩)))
      have c2 := (a2.cell 0).trans (rfl : _ = some (Value.int .i64 m))
      have HA0 := Lib.hid a0
      clear a0 a1 a2 a3
      have HCH := Lib.hid (show chg (gF f) m i = !(gF f (m + i + 1) == gF f (m + i)) from rfl)
      obtain ⟨nw, hnw⟩ : ∃ z, gF f (m + i + 1) = z := ⟨_, rfl⟩
      have HNW := Lib.hid hnw
      have HNW2 := Lib.hid (show nw = gF f (m + ((i + 1 : Nat) : Int)) by rw [← hnw]; congr 1; omega)
      clear hnw
      obtain ⟨bf, hbf⟩ : ∃ z, gF f (m + i) = z := ⟨_, rfl⟩
      rw [hbf]
      have HBF := Lib.hid hbf
      clear hbf
      by_cases hc : nw = bf
      · have HC := Lib.hid (show chg (gF f) m i = false by rw [HCH.out, HNW.out, HBF.out, hc]; simp)
        have HJ2 := Lib.hid (show J (chs (gF f) m (i + 1)) wr by rw [chs_no HC.out]; exact HJ.out)
        subst hc
        clear HCH HC
        cases nw
        all_goals
          gi_wp2_with fail
          refine ⟨trivial, ?_⟩
          refine (callsIn_wide.2 (at_g BQ f (m + i + 1) _ HNW.out _ HA0.out (by omega) (by omega))).mono ?_
          rintro e w1 ⟨rfl, rfl⟩
          gi_wp2_with fail
          refine ⟨(fun f h => (by cases h)), ?_⟩
          gi_wp2
          go_roundw
          case rel => exact ⟨i + 1, hlt, by go_num, by rw [← HNW2.out], HJ2, HB⟩
          case measure => simp [intOf]; omega
      · have HC := Lib.hid (show chg (gF f) m i = true by rw [HCH.out, HNW.out, HBF.out]; simp [hc])
        have HS := Lib.hid (show chs (gF f) m (i + 1) = chs (gF f) m i ++ [(m + i + 1, nw)] by rw [chs_yes HC.out, HNW.out])
        have HP := Lib.hid (show (chs (gF f) m i).length < N from Nat.lt_of_le_of_lt (chs_len _ _ _) hlt)
        have HPR := Lib.hid (chs_pre (gF f) m (show i + 1 ≤ N from hlt))
        clear HCH HC
        cases nw <;> cases bf
        any_goals (exfalso; exact hc rfl)
        all_goals
          clear hc
          gi_wp2_with fail
          refine ⟨trivial, ?_⟩
          refine (callsIn_wide.2 (at_g BQ f (m + i + 1) _ HNW.out _ HA0.out (by omega) (by omega))).mono ?_
          rintro e w1 ⟨rfl, rfl⟩
          gi_wp2_with fail
          obtain ⟨fn, tmps, assign, body, hy, hRR⟩ := HY.out _ (m + i + 1, _) _ HJ.out HP.out
          unfold cvl at hy
          rw [hy]
          gi_wp2
          refine hRR.mono ?_
          rintro e W4 (⟨rfl, hJ4, hB4⟩ | ⟨rfl, hJx4⟩)
          · have HJ4 := Lib.hid hJ4
            have HB4 := Lib.hid (HB.out.trans hB4)
            clear hJ4 hB4 hRR hy HJ HB c1 c2 HA0
            gi_wp2
            go_roundw
            case rel => exact ⟨i + 1, hlt, by go_num, by rw [← HNW2.out], by rw [HS.out]; exact HJ4, HB4⟩
            case measure => simp [intOf]; omega
          · gi_wp2
            refine bodyPost_ret (results_none rfl _ _ _) rfl ?_
            exact ⟨⟨_, rfl⟩, .inr ⟨_, by rw [← HS.out]; exact HPR.out, hJx4⟩⟩
    · obtain rfl : i = N := by omega
      gi_wp2
      go_end0
      exact ⟨⟨_, rfl⟩, .inl ⟨_, rfl, HJ.out⟩⟩
theorem iter_stops (f : Nat → Bool) (m : Int) (N : Nat) (hm1 : -1000000000 ≤ m) (hm2 : m ≤ 1000000000) (hN : N ≤ 20000) (w0 : World) (b n0 BQ B1 B2 B3 : Nat) (hbs : b < BQ ∧ b < B1 ∧ b < B2 ∧ b < B3) (hns : BQ < n0 ∧ B1 < n0 ∧ B2 < n0 ∧ B3 < n0) (hs : n0 ≤ w0.heap.size)
    (hQ : BoxA w0 BQ f) (h1 : BoxN w0 B1 #[.pointer (some ⟨BQ, 0, none⟩)] 51) (h2 : BoxN w0 B2 #[.int .i64 m] 3) (h3 : BoxN w0 B3 #[.int .i64 N] 3) (n : Nat) (hn : 1 ≤ n) :
    SeqStopsK Fence.wide n Try.prog 29 #[.pointer (some ⟨B1, 0, none⟩), .pointer (some ⟨B2, 0, none⟩), .pointer (some ⟨B3, 0, none⟩)] (fun x : Int × Bool => #[cvl x]) (Blk b n0) (fun ys => ys = chs (gF f) m N) (fun pre => pre <+: chs (gF f) m N) N w0 := fun lp J Jx W hW _ _ hY h0 =>
  iter1 f m N hm1 hm2 hN w0 b n0 BQ B1 B2 B3 hbs hns hQ h1 h2 h3 n lp J Jx hY W (Blk.of_below (hW.mono hs) (by omega)) h0 hn
end Go.Proofs.Ytmejpmnipejpiaa
