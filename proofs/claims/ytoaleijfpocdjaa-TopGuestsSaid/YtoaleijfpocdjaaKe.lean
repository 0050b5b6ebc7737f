/- Capabilities: the chain of tags; its iterator. -/
import Derived.RangeFuncNested
import Derived.RangeFuncBound
import Derived.RangeFuncCalls
import Derived.RangeFuncLeaves
import Derived.RangeFuncBox
import Derived.TacticsInMore
import Derived.LoopNIn
import Derived.LoopIn
import Derived.OwnWalkIn
import Derived.Test.YtoaleijfpocdjaaKc
namespace Go.Proofs.Ytoaleijfpocdjaa
open Go.RowKit
attribute [local go_sem] Oper.semAt_some

/-- The tag behind so many caveats; all of them. -/
def tk (t0 : Int) (l : List Cv) : Nat → Int
  | 0 => t0
  | k + 1 => tgN (tk t0 l k) (l.getD k zC)
def chL (t0 : Int) (l : List Cv) : List Int := (List.range (l.length + 1)).map (tk t0 l)
theorem chL_len (t0 : Int) (l : List Cv) : (chL t0 l).length = l.length + 1 := by simp [chL]
theorem chL_take (t0 : Int) (l : List Cv) (k : Nat) (h : k < l.length + 1) : (chL t0 l).take (k + 1) = (chL t0 l).take k ++ [tk t0 l k] := by
  rw [List.take_succ_eq_append_getElem (by rw [chL_len]; exact h)]; simp [chL]
theorem chL_one (t0 : Int) (l : List Cv) : (chL t0 l).take 1 = [t0] := by
  have := chL_take t0 l 0 (by omega)
  simpa [tk] using this
theorem grown_of_below {w w' : World} (h : Below w.heap.size w w') : w.grownBy w' none :=
  ⟨h.os, h.tape, h.output, h.size, fun k hk _ => h.block k hk⟩
/-- A block lies whole. -/
def BoxN (W : World) (B : Nat) (vs : Array Value) (t : TypeId) : Prop := W.heap[B]? = some (.cells vs t (0, 0))
theorem BoxN.lt {W : World} {B : Nat} {t : TypeId} {vs : Array Value} (h : BoxN W B vs t) : B < W.heap.size := (Array.getElem?_eq_some_iff.1 h).1
theorem BoxN.cell {W : World} {B : Nat} {t : TypeId} {vs : Array Value} (h : BoxN W B vs t) (j : Nat) : W.cell? ⟨B, j, none⟩ = vs[j]? := by simp [World.cell?, show W.heap[B]? = _ from h]
theorem BoxN.new (W : World) (vs : Array Value) (t : TypeId) : BoxN (W.alloc (.cells vs t)) W.heap.size vs t := World.alloc_heap_new W _
theorem BoxN.step {W W' : World} {B : Nat} {t : TypeId} {vs : Array Value} (h : BoxN W B vs t) (hb : Below W.heap.size W W') : BoxN W' B vs t := (hb.block B h.lt).trans h
/-- A block of cells lies as it lay. -/
def Same (B : Nat) (W W' : World) : Prop := ∀ o : Obj, W.heap[B]? = some o → o.isCells = true → W'.heap[B]? = some o
theorem BoxN.same {W W' : World} {B : Nat} {t : TypeId} {vs : Array Value} (h : BoxN W B vs t) (hs : Same B W W') : BoxN W' B vs t := hs _ h rfl
/-- What a round of a loop over the chain keeps. -/
def Keep (n₀ B : Nat) (W W' : World) : Prop := Below n₀ W W' ∧ Same B W W'
theorem Keep.trans {n₀ B : Nat} {X Y Z : World} (h : Keep n₀ B X Y) (k : Keep n₀ B Y Z) : Keep n₀ B X Z := ⟨h.1.trans k.1, fun o ho hc => k.2 o (h.2 o ho hc) hc⟩
theorem Keep.putObj {n₀ B : Nat} {w : World} (hn : n₀ ≤ w.heap.size) (W : World) (l : Nat) (o o' : Obj) (hl : w.heap.size ≤ l) (h : W.heap[l]? = some o) (hc : o.isCells = false) (hw : o.isWalk = false) : Keep n₀ B W (W.putObj l o') :=
  ⟨belowK_b hn W l o o' hl h hc hw, fun o2 h2 hc2 => ((grownBy_putObj' W l o').block B (Array.getElem?_eq_some_iff.1 h2).1 (fun e => by cases e; rw [h] at h2; cases h2; rw [hc] at hc2; cases hc2)).trans h2⟩
theorem chain_any (key id tag : Int) (a : Option Addr) (n c : Nat) (w : World) : Calls Try.prog 23 #[.int .i64 key, .agg #[.int .i64 id, .slice a n c, .int .i64 tag]] w fun e w' =>
    e = .returned (.func (.func 43) #[] #[.pointer (some ⟨w.heap.size, 0, none⟩), .pointer (some ⟨w.heap.size + 1, 0, none⟩)]) ∧ w' = (w.alloc (.cells #[.int .i64 key] 3)).alloc (.cells #[.int .i64 id, .slice a n c, .int .i64 tag] 30) := by
  go_enter Try.func23, Try.ntmps23
  go_wp2
  go_ret
  exact ⟨rfl, rfl⟩
set_option maxRecDepth 100000 in
set_option maxHeartbeats 2000000 in
theorem iter1 (key id tag : Int) (l : List Cv) (v : Value) (w0 : World) (hl : CvsAt w0 v l) (h4 : l.length ≤ 1000) (n : Nat) (hn : 1 ≤ n) (lp B1 B2 : Nat) (J Jx : List Int → World → Prop)
    (hY : ∀ pre x W, J pre W → pre.length < l.length + 1 → YieldAt Fence.wide (n - 1) Try.prog lp #[.int .i64 x] W fun e W' =>
      (e = .returned (.bool true) ∧ J (pre ++ [x]) W' ∧ Keep w0.heap.size B2 W W') ∨ (e = .returned (.bool false) ∧ Jx (pre ++ [x]) W'))
    (W : World) (hA : AbidesFrom W.heap.size J) (hB0 : Below w0.heap.size w0 W) (hx1 : BoxN W B1 #[.int .i64 key] 3) (hx2 : BoxN W B2 #[.int .i64 id, v, .int .i64 tag] 30) (h0 : J [] W) :
    CallsIn Fence.wide n Try.prog 43 #[.func (.yield lp) #[] #[], .pointer (some ⟨B1, 0, none⟩), .pointer (some ⟨B2, 0, none⟩)] W fun e W' => (∃ v, e = .returned v) ∧
      ((∃ ys, ys = chL (tg0 key id) l ∧ J ys W') ∨ (∃ pre, pre <+: chL (tg0 key id) l ∧ Jx pre W')) := by
  have HL := Lib.hid hl
  obtain ⟨a, cap, rfl, -, -⟩ := hl
  have HY := Lib.hid hY
  have HJ0 := Lib.hid (show ∀ s A B, J s A → Below A.heap.size A B → J s B from fun s A B h hb => hA s A B none h (grown_of_below hb) (by simp))
  have k1 := (hx1.cell 0).trans (rfl : _ = some (Value.int .i64 key))
  have c0 := (hx2.cell 0).trans (rfl : _ = some (Value.int .i64 id))
  have l1 := hx1.lt
  have l2 := hx2.lt
  have HX := Lib.hid hx2
  have HB0 := Lib.hid hB0
  clear hx1 hx2 hY hA hB0
  refine callsIn_of_wp Try.func43 rfl trivial ?_ rfl
  simp only [Try.ntmps43, List.size_toArray, List.length_cons, List.length_nil, Nat.reduceAdd, Nat.reduceSub, Array.replicate_succ, Array.replicate_zero, List.push_toArray, List.append_toArray, List.nil_append, List.cons_append]
  gi_wp2_with (refine ⟨trivial, ?_⟩; gi_at_call 40; refine (callsIn_wide.2 (firstTag_any key id _)).mono ?_; rintro e w1 ⟨rfl, hb1⟩)
  have HX1 := Lib.hid (HX.out.step hb1)
  have HB1 := Lib.hid (HB0.out.trans (hb1.mono HB0.out.size))
  have hj1 := HJ0.out _ _ _ h0 hb1
  have HC1 := Lib.hid (chL_one (tg0 key id) l)
  clear k1 c0 l1 l2 HX HB0 h0 hb1
  obtain ⟨t0, ht0⟩ : ∃ t0, tg0 key id = t0 := ⟨_, rfl⟩
  rw [ht0] at HC1 ⊢
  have HT0 := Lib.hid ht0
  clear ht0
  obtain ⟨fn, tmps, assign, body, hy, hRR⟩ := HY.out [] t0 _ hj1 (by simp)
  rw [hy]
  gi_wp2
  refine hRR.mono ?_
  rintro e W3 (⟨rfl, hJ3, hk3, hs3⟩ | ⟨rfl, hJx3⟩)
  · have HJ3 := Lib.hid hJ3
    have HB3 := Lib.hid (HB1.out.trans hk3)
    have HX3 := Lib.hid (HX1.out.same hs3)
    clear hJ3 hk3 hs3 hRR hy HX1 HB1 hj1
    have c1 := (HX3.out.cell 1).trans (rfl : _ = some (Value.slice a l.length cap))
    have l2 := HX3.out.lt
    gi_wp2
    gi_loopw [4, 18] (fun tv i wr => ∃ k : Nat, k ≤ l.length ∧ i = .int .i64 k ∧ tv = .int .i64 (tk t0 l k) ∧ Hid (J ((chL t0 l).take (k + 1)) wr) ∧ Hid (Below w0.heap.size w0 wr) ∧ Hid (BoxN wr B2 #[.int .i64 id, .slice a l.length cap, .int .i64 tag] 30)) (fun _ i _ => l.length - (intOf i).toNat)
    case atStart => exact ⟨0, by omega, rfl, rfl, by rw [HC1.out]; exact HJ3.out, HB3.out, HX3.out⟩
    case round =>
      clear HJ3 HB3 HX3 c1 l2 HC1
      obtain ⟨k, hk, rfl, rfl, HJ, HB, HX⟩ := hrel
      by_cases hlt : k < l.length
      · obtain ⟨a2, cap2, hva, -, -, hcs⟩ := HL.out.step HB.out
        obtain ⟨rfl, rfl⟩ : a = a2 ∧ cap = cap2 := by simpa using hva
        obtain ⟨b, off, rfl, hcs2⟩ := hcs (by intro h; rw [h] at hlt; simp at hlt)
        obtain ⟨x0, x1⟩ := hcs2 k _ (cv_get hlt)
        clear hcs hcs2 hva
        have HT := Lib.hid (chL_take t0 l (k + 1) (by omega))
        have HK := Lib.hid (show tk t0 l (k + 1) = tgN (tk t0 l k) (l.getD k zC) from rfl)
        have HP := Lib.hid (show ((chL t0 l).take (k + 1)).length < l.length + 1 by rw [List.length_take, chL_len]; omega)
        generalize l.getD k zC = c at *
        generalize tk t0 l k = tt at *
        obtain ⟨ck, cv⟩ := c
        simp only at x0 x1
        have xb := World.block_lt_of_cell? _ _ x0
        have xb : b < wr.heap.size := xb
        gi_wp2_with (refine ⟨trivial, ?_⟩; gi_at_call 39; refine (callsIn_wide.2 (nextTag_any tt ⟨ck, cv⟩ _)).mono ?_; rintro e w2 ⟨rfl, hb2⟩)
        have hb3 := keep2 hb2 (al wr (.cells #[.int .i64 ck, .int .i64 cv] 24))
        have HJ2 := Lib.hid (HJ0.out _ _ _ HJ.out hb3)
        have HB2 := Lib.hid (HB.out.trans (hb3.mono HB.out.size))
        have HX2 := Lib.hid (HX.out.step hb3)
        clear hb2 hb3 x0 x1 xb
        rw [← HK.out]
        obtain ⟨fn, tmps, assign, body, hy, hRR⟩ := HY.out _ (tk t0 l (k + 1)) _ HJ2.out HP.out
        rw [hy]
        gi_wp2
        refine hRR.mono ?_
        rintro e W4 (⟨rfl, hJ4, hk4, hs4⟩ | ⟨rfl, hJx4⟩)
        · have HJ4 := Lib.hid hJ4
          have HB4 := Lib.hid (HB2.out.trans hk4)
          have HX4 := Lib.hid (HX2.out.same hs4)
          clear hJ4 hk4 hs4 hRR hy HX2 HB2 HJ2 HJ HB HX
          gi_wp2
          go_roundw
          case rel => exact ⟨k + 1, hlt, by go_num, rfl, by rw [HT.out]; exact HJ4, HB4, HX4⟩
          case measure => simp [intOf]; omega
        · gi_wp2
          refine bodyPost_ret (results_none rfl _ _ _) rfl ?_
          exact ⟨⟨_, rfl⟩, .inr ⟨_, ⟨(chL t0 l).drop (k + 1 + 1), by rw [HT0.out, ← HT.out, List.take_append_drop]⟩, hJx4⟩⟩
      · obtain rfl : k = l.length := by omega
        gi_wp2
        go_end0
        exact ⟨⟨_, rfl⟩, .inl ⟨_, by rw [HT0.out], by have h := HJ.out; rwa [List.take_of_length_le (by rw [chL_len]; omega)] at h⟩⟩
  · gi_wp2
    refine bodyPost_ret (results_none rfl _ _ _) rfl ?_
    exact ⟨⟨_, rfl⟩, .inr ⟨_, ⟨(chL t0 l).drop 1, by rw [HT0.out, List.nil_append, ← HC1.out, List.take_append_drop]⟩, hJx3⟩⟩
theorem iter_stops (key id tag : Int) (l : List Cv) (v : Value) (w0 : World) (hl : CvsAt w0 v l) (h4 : l.length ≤ 1000) (n : Nat) (hn : 1 ≤ n) (B1 B2 : Nat) (w : World) (hB : Below w0.heap.size w0 w) (h1 : BoxN w B1 #[.int .i64 key] 3) (h2 : BoxN w B2 #[.int .i64 id, v, .int .i64 tag] 30) :
    SeqStopsK Fence.wide n Try.prog 43 #[.pointer (some ⟨B1, 0, none⟩), .pointer (some ⟨B2, 0, none⟩)] (fun x : Int => #[Value.int .i64 x]) (Keep w0.heap.size B2) (fun ys => ys = chL (tg0 key id) l) (fun pre => pre <+: chL (tg0 key id) l) (l.length + 1) w := fun lp J Jx W hW hA _ hY h0 =>
  iter1 key id tag l v w0 hl h4 n hn lp B1 B2 J Jx hY W hA (hB.trans (hW.mono hB.size)) (h1.step hW) (h2.step hW) h0
end Go.Proofs.Ytoaleijfpocdjaa
