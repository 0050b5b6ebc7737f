/- The contract of the iterator of tokens. -/
import Derived.RangeFuncNested
import Derived.RangeFuncBound
import Derived.RangeFuncCalls
import Derived.RangeFuncLeaves
import Derived.Shelf.Abstract
import Derived.Shelf.RegionOpen
import Derived.WalkKit
import Derived.OwnWalkIn
import Derived.TacticsInMore
import Derived.LoopNIn
import Derived.LoopIn
import Derived.Maps.AppendAt
import Derived.Test.YtaokedpcijmncaaDoorE
namespace Go.Proofs.YtaokedpcijmncaaDoor
open Go.RowKit Go.Maps Go.Shelf
attribute [local go_sem] Oper.semAt_some

theorem grown_of_below {w w' : World} (h : Below w.heap.size w w') : w.grownBy w' none :=
  ⟨h.os, h.tape, h.output, h.size, fun k hk _ => h.block k hk⟩
theorem Scan.below {w w' : World} {b : Nat} (h : Scan w b) (hb : Below w.heap.size w w') : Scan w' b :=
  World.ownsMap.kept h (grown_of_below hb) (by simp)
theorem Scan.walks {w w' : World} {b : Nat} (h : Scan w b) (hk : KeepsWalks w w') : Scan w' b := by
  obtain ⟨es, clock, hb, F, hs, hD⟩ := h
  exact ⟨es, clock, hk.same b _ hb rfl, F, hs, hD⟩

/-- Blocks of four cells of the type of tokens lie as they lay. -/
def Four (W W' : World) : Prop := ∀ (k : Nat) (c : Array Value) (fr : Nat × Nat), W.heap[k]? = some (.cells c 29 fr) → c.size = 4 → W'.heap[k]? = some (.cells c 29 fr)
theorem Four.refl (W : World) : Four W W := fun _ _ _ h _ => h
theorem Four.trans {A B C : World} (h : Four A B) (k : Four B C) : Four A C := fun i c fr hi hc => k i c fr (h i c fr hi hc) hc
theorem Four.alloc (W : World) (o : Obj) : Four W (W.alloc o) := fun k _ _ h _ => (Below.heap_alloc W o k (Array.getElem?_eq_some_iff.1 h).1).trans h
theorem Four.grown {W W' : World} {row : Option Nat} (hg : W.grownBy W' row) (hr : ∀ r, row = some r → ∀ c fr, W.heap[r]? = some (.cells c 29 fr) → c.size ≠ 4) : Four W W' := fun k c fr h hc =>
  (hg.block k (Array.getElem?_eq_some_iff.1 h).1 (fun e => hr k e.symm c fr h hc)).trans h
/-- A block of cells lies as it lay. -/
def Same (B : Nat) (W W' : World) : Prop := ∀ o : Obj, W.heap[B]? = some o → o.isCells = true → W'.heap[B]? = some o
theorem Same.trans {B : Nat} {X Y Z : World} (h : Same B X Y) (k : Same B Y Z) : Same B X Z := fun o ho hc => k o (h o ho hc) hc
/-- What a round of a loop over the tokens keeps. -/
def Keep (n₀ B : Nat) (W W' : World) : Prop := Below n₀ W W' ∧ KeepsWalks W W' ∧ Four W W' ∧ Same B W W'
theorem Keep.trans {n₀ B : Nat} {X Y Z : World} (h : Keep n₀ B X Y) (k : Keep n₀ B Y Z) : Keep n₀ B X Z := ⟨h.1.trans k.1, h.2.1.trans k.2.1, h.2.2.1.trans k.2.2.1, h.2.2.2.trans k.2.2.2⟩
theorem Keep.putObj {n₀ B : Nat} {w : World} (hn : n₀ ≤ w.heap.size) (W : World) (l : Nat) (o o' : Obj) (hl : w.heap.size ≤ l) (h : W.heap[l]? = some o) (hc : o.isCells = false) (hw : o.isWalk = false) : Keep n₀ B W (W.putObj l o') :=
  ⟨belowK_b hn W l o o' hl h hc hw, walksK_b (w := w) W l o o' hl h hc hw, Four.grown (grownBy_putObj' W l o') (fun r e c fr hr => by cases e; rw [h] at hr; cases hr; cases hc),
   fun o2 h2 hc2 => ((grownBy_putObj' W l o').block B (Array.getElem?_eq_some_iff.1 h2).1 (fun e => by cases e; rw [h] at h2; cases h2; rw [hc] at hc2; cases hc2)).trans h2⟩

theorem Same.alloc (B : Nat) (W : World) (o : Obj) : Same B W (W.alloc o) := fun _ h _ => (Below.heap_alloc W o B (Array.getElem?_eq_some_iff.1 h).1).trans h
theorem Keep.alloc {n₀ : Nat} (B : Nat) {W : World} (hn : n₀ ≤ W.heap.size) (o : Obj) : Keep n₀ B W (W.alloc o) :=
  ⟨(Below.refl _ _).alloc hn _, KeepsWalks.alloc _ _, Four.alloc _ _, Same.alloc _ _ _⟩

set_option maxRecDepth 100000 in
set_option maxHeartbeats 2000000 in
theorem iter1 (s : ByteArray) (n : Nat) (hn : 1 ≤ n) (hs : s.size < 2 ^ 62) (l Bs n₀ : Nat) (J Jx : List Item → World → Prop) (xs : List Item) (hxs : Hid (xs = its s (gap s 0)))
    (hY : ∀ pre x W, J pre W → pre.length < xs.length → YieldAt Fence.wide (n - 1) Tryd.prog l #[x.val, .int .i64 x.err] W fun e W' =>
      (e = .returned (.bool true) ∧ J (pre ++ [x]) W' ∧ Keep n₀ Bs W W') ∨ (e = .returned (.bool false) ∧ Jx (pre ++ [x]) W'))
    (W : World) (hJ : ∀ s W W', J s W → Below W.heap.size W W' → J s W') (hn0 : n₀ ≤ W.heap.size) (hpos : 1 ≤ n₀) (HT : Hid (Tab W)) (hBx : Boxed W Bs 9 (.string s)) (h0 : J [] W) :
    CallsIn Fence.wide n Tryd.prog 18 #[.func (.yield l) #[] #[], .pointer (some ⟨Bs, 0, none⟩)] W fun e W' => (∃ v, e = .returned v) ∧
      ((∃ ys, ys = xs ∧ J ys W') ∨ (∃ pre, pre <+: xs ∧ Jx pre W')) := by
  have HJ := Lib.hid hJ
  have HY := Lib.hid hY
  have hBs := hBx.cell
  have hlt0 := hBx.lt
  have HBx := Lib.hid hBx
  clear hBx
  clear hJ hY
  refine callsIn_of_wp Tryd.func18 rfl trivial ?_ rfl
  simp only [Tryd.ntmps18, List.size_toArray, List.length_cons, List.length_nil, Nat.reduceAdd, Nat.reduceSub, Array.replicate_succ, Array.replicate_zero, List.push_toArray, List.append_toArray, List.nil_append, List.cons_append]
  gi_wp2_with (first
    | (refine ⟨trivial, ?_⟩; gi_at_call 19; refine (callsIn_wide.2 (scanners_any _)).mono ?_; rintro e w1 ⟨rfl, hS1, hb1⟩; obtain ⟨hc1, hf1⟩ := bcell hb1; have hlt1 : Bs < W.heap.size := hlt0)
    | (refine ⟨trivial, ?_⟩; gi_at_call 20; refine (callsIn_wide.2 (skipGaps_any s _ _ (by unfold maxLen; omega) (by omega) (HT.out.below hb1 (by omega)))).mono ?_; rintro e w2 ⟨rfl, rfl⟩))
  have hg0 := gap_le s 0 (by omega)
  gi_loopw [4] (fun i wr => ∃ (pre : List Item) (p : Nat), i = .int .i64 p ∧ p ≤ s.size ∧ Hid (xs = pre ++ its s p) ∧ J pre wr ∧ Scan wr W.heap.size ∧ Below n₀ W wr ∧ W.heap.size < wr.heap.size ∧ Boxed wr Bs 9 (.string s))
    (fun i _ => s.size - (intOf i).toNat)
  case atStart => exact ⟨[], gap s 0, by simp, hg0, hxs, HJ.out _ _ _ h0 hb1, hS1, hb1.mono hn0, hS1.lt, (hb1.block Bs hlt0).trans HBx.out⟩
  case round =>
    obtain ⟨pre, p, rfl, hp, hx, hj, hS, hB1, hsz, hbx⟩ := hrel
    have hcb := hbx.cell
    have hbl := hbx.lt
    have HB := Lib.hid hbx
    clear hbx
    by_cases hlt : p < s.size
    · have HN := next_any s p wr W.heap.size (by omega) (HT.out.below (hB1) hpos) hS hlt
      have hlen := item_len s p hlt
      by_cases he : (item s p).err = 0
      · obtain ⟨hl1, hl2⟩ := hlen he
        have HG := Lib.hid (its_go s p hlt he)
        have hg1 := gap_ge s (p + (item s p).t.size)
        have hg2 := gap_le s (p + (item s p).t.size) hl2
        generalize item s p = x at *
        unfold Item.val tokv at HN
        have HN2 := Lib.hid HN
        have he1 : (x.err != 0) = false := by simpa using he
        have HL := Lib.hid (show pre.length < xs.length by rw [hx.out, HG.out]; simp)
        clear HN he hlen
        gi_wp2_with (first
          | (refine ⟨trivial, ?_⟩; gi_at_call 21; refine (callsIn_wide.2 HN2.out).mono ?_; rintro e w2 ⟨rfl, hb2⟩
             obtain ⟨fn, tmps, assign, body, hy, hR⟩ := HY.out pre x (w2.alloc (.cells #[.int .i64 x.k, .string x.t, .int .i64 x.v, .int .i64 x.at_] 29)) (HJ.out _ _ _ hj (hb2.alloc hb2.size _)) HL.out
             dsimp only [Item.val, tokv] at hy
             have hcb2 : w2.cell? ⟨Bs, 0, none⟩ = some (.string s) := (hb2.cell (p := ⟨Bs, 0, none⟩) hbl).trans hcb))
        refine hR.mono ?_
        rintro e W3 (⟨rfl, hJ3, hk1, hk2, hk3, hk4⟩ | ⟨rfl, hJx3⟩)
        · have hbx3 : Boxed W3 Bs 9 (.string s) := hk4 _ (Boxed.alloc ((hb2.block Bs hbl).trans HB.out) _) rfl
          have hcb3 := hbx3.cell
          have HB3 := Lib.hid hbx3
          clear hbx3
          have ht3 := hk3 w2.heap.size _ _ (World.alloc_heap_new w2 _) rfl
          have hct : W3.cell? ⟨w2.heap.size, 1, none⟩ = some (.string x.t) := by simp [World.cell?, ht3]
          have hB3 : Below n₀ W W3 := ((hB1.trans (hb2.mono (Nat.le_trans hn0 (Nat.le_of_lt hsz)))).alloc (by have := hb2.size; omega) _).trans hk1
          have hS3 : Scan W3 W.heap.size := ((hS.below hb2).alloc _).walks hk2
          have hz3 : W.heap.size < W3.heap.size := hS3.lt
          have HT3 := Lib.hid (HT.out.below hB3 hpos)
          have HX := Lib.hid (show xs = (pre ++ [x]) ++ its s (gap s (p + x.t.size)) by rw [hx.out, HG.out]; simp)
          clear ht3 hk1 hk2 hk3 hk4 hR hy hcb2 hcb
          gi_wp2_with (refine ⟨trivial, ?_⟩; gi_at_call 20; refine (callsIn_wide.2 (skipGaps_any s _ _ (by unfold maxLen; omega) (by omega) HT3.out)).mono ?_; rintro e w4 ⟨rfl, rfl⟩)
          go_roundw
          case rel => exact ⟨pre ++ [x], gap s (p + x.t.size), by rw [show ((p : Int) + (x.t.size : Int)).toNat = p + x.t.size by omega], hg2, HX, hJ3, hS3, hB3, hz3, HB3.out⟩
          case measure => rw [show ((p : Int) + (x.t.size : Int)).toNat = p + x.t.size by omega]; simp only [intOf, Int.toNat_natCast]; omega
        · gi_wp2
          refine bodyPost_ret (results_none rfl _ _ _) rfl ?_
          exact ⟨⟨_, rfl⟩, .inr ⟨pre ++ [x], ⟨its s (gap s (p + x.t.size)), by rw [hx.out, HG.out]; simp⟩, hJx3⟩⟩
      · have HG := Lib.hid (its_stop s p hlt he)
        generalize item s p = x at *
        unfold Item.val tokv at HN
        have HN2 := Lib.hid HN
        have he1 : (x.err != 0) = true := by simpa using he
        have HL := Lib.hid (show pre.length < xs.length by rw [hx.out, HG.out]; simp)
        have HX := Lib.hid (show pre ++ [x] = xs by rw [hx.out, HG.out])
        clear HN he hlen
        gi_wp2_with (first
          | (refine ⟨trivial, ?_⟩; gi_at_call 21; refine (callsIn_wide.2 HN2.out).mono ?_; rintro e w2 ⟨rfl, hb2⟩
             obtain ⟨fn, tmps, assign, body, hy, hR⟩ := HY.out pre x (w2.alloc (.cells #[.int .i64 x.k, .string x.t, .int .i64 x.v, .int .i64 x.at_] 29)) (HJ.out _ _ _ hj (hb2.alloc hb2.size _)) HL.out
             dsimp only [Item.val, tokv] at hy
             have hcb2 : w2.cell? ⟨Bs, 0, none⟩ = some (.string s) := (hb2.cell (p := ⟨Bs, 0, none⟩) hbl).trans hcb))
        refine hR.mono ?_
        rintro e W3 (⟨rfl, hJ3, hk1, hk2, hk3, hk4⟩ | ⟨rfl, hJx3⟩)
        · clear hk1 hk2 hk3 hk4 hR hy hcb2 hcb
          gi_wp2
          refine bodyPost_ret (results_none rfl _ _ _) rfl ?_
          exact ⟨⟨_, rfl⟩, .inl ⟨_, HX.out, hJ3⟩⟩
        · clear hR hy hcb2 hcb
          gi_wp2
          refine bodyPost_ret (results_none rfl _ _ _) rfl ?_
          exact ⟨⟨_, rfl⟩, .inr ⟨pre ++ [x], ⟨[], by rw [HX.out]; simp⟩, hJx3⟩⟩
    · gi_wp2
      go_end0
      exact ⟨⟨_, rfl⟩, .inl ⟨_, rfl, by rw [hx.out, its_end s p hlt, List.append_nil]; exact hj⟩⟩

/-- What 'tokens' hands back yields just the items. -/
theorem iter_stops (s : ByteArray) (n : Nat) (hn : 1 ≤ n) (hs : s.size < 2 ^ 62) (Bs n₀ : Nat) (w : World) (hn0 : n₀ ≤ w.heap.size) (hpos : 1 ≤ n₀) (hT : Tab w) (hBx : Boxed w Bs 9 (.string s)) :
    SeqStopsK Fence.wide n Tryd.prog 18 #[.pointer (some ⟨Bs, 0, none⟩)] (fun x : Item => #[x.val, .int .i64 x.err]) (Keep n₀ Bs) (fun ys => ys = its s (gap s 0)) (fun pre => pre <+: its s (gap s 0)) (its s (gap s 0)).length w := fun l J Jx W hW hJ _ hY h0 =>
  iter1 s n hn hs l Bs n₀ (fun pre W' => J pre W' ∧ W.heap.size ≤ W'.heap.size) Jx _ rfl
    (fun pre x W1 hj hl => by
      obtain ⟨fn, tmps, assign, body, hy, hR⟩ := hY pre x W1 hj.1 hl
      exact ⟨fn, tmps, assign, body, hy, hR.mono (fun e w' h => h.elim (fun h => .inl ⟨h.1, ⟨h.2.1, Nat.le_trans hj.2 h.2.2.1.size⟩, h.2.2⟩) .inr)⟩)
    W (fun s A B hs hb => ⟨hJ s A B none hs.1 (grown_of_below hb) (fun r e => by cases e), Nat.le_trans hs.2 hb.size⟩) (Nat.le_trans hn0 hW.size) hpos (hT.below (hW.mono hn0) hpos) ((hW.block Bs hBx.lt).trans hBx) ⟨h0, Nat.le_refl _⟩
    |>.mono fun e W' h => ⟨h.1, h.2.elim (fun ⟨ys, a, b⟩ => .inl ⟨ys, a, b.1⟩) .inr⟩
end Go.Proofs.YtaokedpcijmncaaDoor
