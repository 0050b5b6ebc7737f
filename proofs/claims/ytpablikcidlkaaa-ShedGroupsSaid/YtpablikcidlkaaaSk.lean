/- Shedding: the iterator in order of priority. -/
import Derived.RangeFuncNested
import Derived.RangeFuncBound
import Derived.RangeFuncCalls
import Derived.RangeFuncLeaves
import Derived.RangeFuncBox
import Derived.TacticsInMore
import Derived.LoopNIn
import Derived.LoopIn
import Derived.OwnWalkIn
import Derived.Laws.MakeOwn
import Derived.Test.YtpablikcidlkaaaSj
namespace Go.Proofs.Ytpablikcidlkaaa
open Go.RowKit
attribute [local go_sem] Oper.semAt_some

theorem grown_of_below {w w' : World} (h : Below w.heap.size w w') : w.grownBy w' none :=
  ⟨h.os, h.tape, h.output, h.size, fun k hk _ => h.block k hk⟩
set_option maxRecDepth 100000 in
theorem sortf_any (b1 b2 g n c : Nat) (l : List (Int × Int)) (w : World) (h : OA w g (List.range' 0 n)) (hn : l.length = n) (hc : CmpOK l g b1 b2 w) (h9 : n ≤ 100000) :
    Calls Try.prog 37 #[.slice (some ⟨g, 0, none⟩) n c, .func (.func 38) #[] #[.pointer (some ⟨b1, 0, none⟩), .pointer (some ⟨b2, 0, none⟩)]] w fun e w' => e = .returned (.tuple #[]) ∧ (∃ s, OA w' g s ∧ IsST (pri l) 0 n s) ∧ Below g w w' := by
  have HI := Lib.hid (stable_any b1 b2 g n c l w h hn hc h9)
  clear h hn hc
  go_enter Try.func37, Try.ntmps37
  go_wp2_with fail
  refine HI.out.mono ?_
  rintro e w2 ⟨rfl, o2, bb⟩
  have HO := Lib.hid o2
  have HB := Lib.hid bb
  clear o2 bb
  go_wp2
  go_end0
  exact ⟨rfl, HO.out, HB.out⟩
theorem info3 : (Try.prog.info? 3).map (fun i => (i.zero, i.size, i.bytes)) = some (some (.int .i64 0), 1, 8) := by kernel_rfl
theorem info4 : (Try.prog.info? 4).map (fun i => (i.zero, i.size, i.bytes)) = some (some (.bool false), 1, 1) := by kernel_rfl
theorem info_parts {t : TypeId} {z : Value} {s b : Nat} (h : (Try.prog.info? t).map (fun i => (i.zero, i.size, i.bytes)) = some (some z, s, b)) : ∃ i, Try.prog.info? t = some i ∧ i.zero = some z ∧ i.size = s ∧ i.bytes = b := by
  cases hi : Try.prog.info? t with
  | none => rw [hi] at h; simp at h
  | some i => rw [hi] at h; simp at h; exact ⟨i, rfl, h.1, h.2.1, h.2.2⟩
theorem made_one (v : Value) (n : Nat) (hv : v.cells = #[v]) : madeCells v.cells (n * 1) = Array.replicate n v := by
  rw [hv, Nat.mul_one]
  unfold madeCells
  apply Array.ext'
  simp [Array.toList_map]
  apply List.ext_getElem
  · simp
  · intro i h1 h2
    simp [Nat.mod_one]
theorem und48 : Try.prog.underlying 48 = some (.slice 3) := by kernel_rfl
theorem und23 : Try.prog.underlying 23 = some (.slice 4) := by kernel_rfl
theorem hmkI (n : Nat) (hn : n ≤ 100000) : ∀ w, (Instr.makeSlice 48 (.int .i64 (n : Int)) (.int .i64 (n : Int))).run Try.prog w = .ok (.slice (some ⟨w.heap.size, 0, none⟩) n n) (w.alloc (.cells (Array.replicate n (.int .i64 0)) 3)) := fun w => by
  obtain ⟨i, hi, hz, hs, hb⟩ := info_parts info3
  have := run_makeSlice (P := Try.prog) w 48 3 i (.int .i64 0) und48 hi hz .i64 .i64 (n : Int) (n : Int) (by omega) (Int.le_refl _) (by rw [hs]; omega) (by rw [hb]; omega) (by omega)
  rw [this, hs, Int.toNat_natCast, made_one _ _ rfl]
theorem hmkB (n : Nat) (hn : n ≤ 100000) : ∀ w, (Instr.makeSlice 23 (.int .i64 (n : Int)) (.int .i64 (n : Int))).run Try.prog w = .ok (.slice (some ⟨w.heap.size, 0, none⟩) n n) (w.alloc (.cells (Array.replicate n (.bool false)) 4)) := fun w => by
  obtain ⟨i, hi, hz, hs, hb⟩ := info_parts info4
  have := run_makeSlice (P := Try.prog) w 23 4 i (.bool false) und23 hi hz .i64 .i64 (n : Int) (n : Int) (by omega) (Int.le_refl _) (by rw [hs]; omega) (by rw [hb]; omega) (by omega)
  rw [this, hs, Int.toNat_natCast, made_one _ _ rfl]
/-- What a round leaves: two blocks of the caller's may change. -/
def Kq (n0 KB SB : Nat) (W W' : World) : Prop := Below n0 W W' ∧ ∀ k o, k ≠ KB → k ≠ SB → W.heap[k]? = some o → o.isCells = true → W'.heap[k]? = some o
theorem Kq.refl (n0 KB SB : Nat) (W : World) : Kq n0 KB SB W W := ⟨Below.refl _ _, fun _ _ _ _ h _ => h⟩
theorem Kq.trans {n0 KB SB : Nat} {x y z : World} (h : Kq n0 KB SB x y) (k : Kq n0 KB SB y z) : Kq n0 KB SB x z := ⟨h.1.trans k.1, fun j o h1 h2 h3 h4 => k.2 j o h1 h2 (h.2 j o h1 h2 h3 h4) h4⟩
theorem heap_lt {W : World} {k : Nat} {o : Obj} (h : W.heap[k]? = some o) : k < W.heap.size := (Array.getElem?_eq_some_iff.1 h).1
theorem Kq.of_below {n0 KB SB : Nat} {W W' : World} (h : Below W.heap.size W W') (hn : n0 ≤ W.heap.size) : Kq n0 KB SB W W' := ⟨h.mono hn, fun _ _ _ _ h3 _ => (h.block _ (heap_lt h3)).trans h3⟩
theorem Kq.cell {n0 KB SB : Nat} {W W' : World} (h : Kq n0 KB SB W W') {p : Addr} {v : Value} (hc : W.cell? p = some v) (h1 : p.block ≠ KB) (h2 : p.block ≠ SB) : W'.cell? p = some v := by
  obtain ⟨o, ho, hk⟩ := cells_of_cell hc
  rw [← hc]
  unfold World.cell?
  rw [h.2 _ _ h1 h2 ho hk, ho]
theorem Kq.boxN {n0 KB SB B : Nat} {W W' : World} {t : TypeId} {vs : Array Value} (h : Kq n0 KB SB W W') (k : BoxN W B vs t) (h1 : B ≠ KB) (h2 : B ≠ SB) : BoxN W' B vs t := h.2 B _ h1 h2 k rfl
theorem Kq.putObj {n0 KB SB : Nat} {w : World} (hn : n0 ≤ w.heap.size) (W : World) (l : Nat) (o o' : Obj) (hl : w.heap.size ≤ l) (h : W.heap[l]? = some o) (hc : o.isCells = false) (hw : o.isWalk = false) : Kq n0 KB SB W (W.putObj l o') := by
  refine ⟨belowK_b hn W l o o' hl h hc hw, fun k o2 _ _ h3 h4 => ?_⟩
  have hne : k ≠ l := fun e => by
    subst e
    rw [h] at h3
    cases h3
    rw [hc] at h4
    cases h4
  exact ((grownBy_putObj' W l o').block k (heap_lt h3) (fun e => hne (by cases e; rfl))).trans h3
/-- The order, in its block. -/
def OC (W : World) (g : Nat) (s : List Nat) : Prop := ∀ i, i < s.length → W.cell? ⟨g, i, none⟩ = some (.int .i64 ((s.getD i 0 : Nat) : Int))
theorem OA.oc {W : World} {g : Nat} {s : List Nat} (h : OA W g s) : OC W g s := fun _ hi => h.cell hi
theorem OC.kq {n0 KB SB g : Nat} {W W' : World} {s : List Nat} (h : OC W g s) (k : Kq n0 KB SB W W') (h1 : g ≠ KB) (h2 : g ≠ SB) : OC W' g s := fun i hi => k.cell (h i hi) h1 h2
/-- The two variables that the iterator holds, and the consumers. -/
def Iv (w00 W : World) (n0 B1 B2 : Nat) (v : Value) : Prop := Below n0 w00 W ∧ BoxN W B1 #[.func (.func 34) #[] #[]] 58 ∧ BoxN W B2 #[v] 22
theorem Iv.kq {w00 W W' : World} {n0 B1 B2 KB SB : Nat} {v : Value} (h : Iv w00 W n0 B1 B2 v) (k : Kq n0 KB SB W W') (h1 : B1 ≠ KB ∧ B1 ≠ SB) (h2 : B2 ≠ KB ∧ B2 ≠ SB) : Iv w00 W' n0 B1 B2 v :=
  ⟨h.1.trans k.1, k.boxN h.2.1 h1.1 h1.2, k.boxN h.2.2 h2.1 h2.2⟩
theorem Iv.step {w00 W W' : World} {n0 B1 B2 : Nat} {v : Value} (h : Iv w00 W n0 B1 B2 v) (hn : n0 ≤ W.heap.size) (k : Below W.heap.size W W') : Iv w00 W' n0 B1 B2 v :=
  ⟨h.1.trans (k.mono hn), h.2.1.step k, h.2.2.step k⟩
theorem fill_set (n k : Nat) (h : k < n) : (List.range' 0 k ++ List.replicate (n - k) 0).set k k = List.range' 0 (k + 1) ++ List.replicate (n - (k + 1)) 0 := by
  obtain ⟨d, hd⟩ : ∃ d, n - k = d + 1 := ⟨n - k - 1, by omega⟩
  rw [hd, show n - (k + 1) = d by omega, List.set_append_right _ _ (by simp), List.length_range', Nat.sub_self, List.replicate_succ, List.set_cons_zero]
  rw [← List.range'_append_1 (s := 0) (m := k) (n := 1)]
  simp
/-- What the iterator hands over. -/
def cen (l : List (Int × Int)) (i : Nat) : Array Value := #[.int .i64 i, .agg #[.int .i64 (pow l i), .int .i64 (pri l i)]]
theorem lift_fin {P : Nat → Int} {N : Nat} {s : List Nat} (h : IsST P 0 N s) : ∃ z : List (Fin N), z.map Fin.val = s := by
  have hb : ∀ x ∈ s, x < N := fun x hx => (h.mem hx).2
  clear h
  induction s with
  | nil => exact ⟨[], rfl⟩
  | cons x s ih =>
    obtain ⟨z, hz⟩ := ih fun y hy => hb y (by simp [hy])
    exact ⟨⟨x, hb x (by simp)⟩ :: z, by simp [hz]⟩
set_option maxRecDepth 100000 in
set_option maxHeartbeats 8000000 in
theorem iter1 (l : List (Int × Int)) (N : Nat) (hN : l.length = N) (v : Value) (hl : N ≤ 100000) (w00 : World) (n0 KB SB B1 B2 : Nat) (hL : ConsAt w00 v l) (hn0 : w00.heap.size ≤ n0) (hb1 : B1 ≠ KB ∧ B1 ≠ SB) (hb2 : B2 ≠ KB ∧ B2 ≠ SB)
    (n lp : Nat) (J Jx : List (Fin N) → World → Prop) (W : World) (hI : Iv w00 W n0 B1 B2 v) (hnW : n0 ≤ W.heap.size) (hK : KB < W.heap.size) (hS : SB < W.heap.size) (hA : AbidesFrom W.heap.size J)
    (hY : ∀ pre x W, J pre W → pre.length < N → YieldAt Fence.wide (n - 1) Try.prog lp (cen l x.1) W fun e W' =>
      (e = .returned (.bool true) ∧ J (pre ++ [x]) W' ∧ Kq n0 KB SB W W') ∨ (e = .returned (.bool false) ∧ Jx (pre ++ [x]) W'))
    (h0 : J [] W) (hn : 1 ≤ n) :
    CallsIn Fence.wide n Try.prog 36 #[.func (.yield lp) #[] #[], .pointer (some ⟨B2, 0, none⟩), .pointer (some ⟨B1, 0, none⟩)] W fun e W' => (∃ v, e = .returned v) ∧
      ((∃ ys, IsST (pri l) 0 N (ys.map Fin.val) ∧ J ys W') ∨ (∃ pre, True ∧ Jx pre W')) := by
  have HN := Lib.hid hN
  have HY := Lib.hid hY
  have HA := Lib.hid hA
  have HL := Lib.hid hL
  have HI := Lib.hid hI
  have HJ0 := Lib.hid h0
  have hk1 : B1 ≠ KB := hb1.1
  have hmk := hmkI N hl
  obtain ⟨va, vc, rfl⟩ : ∃ a c, v = .slice a N c := (by obtain ⟨a, c, e, -⟩ := hL; rw [hN] at e; exact ⟨a, c, e⟩)
  have c1 := (hI.2.2.cell 0).trans (rfl : _ = some (Value.slice va N vc))
  clear hN hY hA hL h0
  refine callsIn_of_wp Try.func36 rfl trivial ?_ rfl
  simp only [Try.ntmps36, List.size_toArray, List.length_cons, List.length_nil, Nat.reduceAdd, Nat.reduceSub, Array.replicate_succ, Array.replicate_zero, List.push_toArray, List.append_toArray, List.nil_append, List.cons_append]
  have HIA := Lib.hid hI
  have al0 : Below W.heap.size W (W.alloc (.cells (Array.replicate N (.int .i64 0)) 3)) := al W _
  have o0 : OA (W.alloc (.cells (Array.replicate N (.int .i64 0)) 3)) W.heap.size (List.range' 0 0 ++ List.replicate (N - 0) 0) := by
    have := Cs.new W W.heap.size (Array.replicate N (.int .i64 0)) 3 rfl
    unfold OA
    simpa using this
  gi_wp2_with fail
  obtain ⟨g, hg⟩ : ∃ g, W.heap.size = g := ⟨_, rfl⟩
  obtain ⟨Wa, hWa⟩ : ∃ z, W.alloc (.cells (Array.replicate N (.int .i64 0)) 3) = z := ⟨_, rfl⟩
  rw [hWa] at al0 o0 ⊢
  have HBa := Lib.hid al0
  rw [hg] at o0 hnW hK hS ⊢
  have HO0 := Lib.hid o0
  have HG := Lib.hid hg
  clear hWa al0 o0 hg c1 hmk
  gi_loopw [13] (fun iv wr => ∃ k : Nat, k ≤ N ∧ iv = .int .i64 k ∧ Hid (OA wr g (List.range' 0 k ++ List.replicate (N - k) 0)) ∧ Hid (Below W.heap.size W wr)) (fun iv _ => N - (intOf iv).toNat)
  case atStart => exact ⟨0, by omega, rfl, HO0, HBa⟩
  case round =>
    clear HO0 HBa
    obtain ⟨k, hk, rfl, HO, HB⟩ := hrel
    by_cases hlt : k < N
    · have ho := HO.out
      have hlen : (List.range' 0 k ++ List.replicate (N - k) 0).length = N := by simp; omega
      have y0 := ho.frozen (i := k) (by rw [hlen]; exact hlt)
      have x0 := ho.cell (i := k) (by rw [hlen]; exact hlt)
      have HS2 := Lib.hid (show OA (wr.setCell ⟨g, k, none⟩ (.int .i64 (k : Int))) g (List.range' 0 (k + 1) ++ List.replicate (N - (k + 1)) 0) by rw [← fill_set N k hlt]; exact ho.set (by rw [hlen]; exact hlt))
      have HB2 := Lib.hid (HB.out.setCell (p := ⟨g, k, none⟩) (by rw [HG.out]; exact Nat.le_refl _) (.int .i64 (k : Int)))
      have t1 : (k : Int) < (N : Int) := by omega
      clear ho hlen HO HB
      generalize (List.range' 0 k ++ List.replicate (N - k) 0).getD k 0 = u0 at *
      gi_wp2_with fail
      go_roundw
      case rel => exact ⟨k + 1, hlt, by go_num, HS2, HB2⟩
      case measure => simp [intOf]; omega
    · obtain rfl : k = N := by omega
      have ho := HO.out
      rw [Nat.sub_self, List.replicate_zero, List.append_nil] at ho
      have hgw : W.heap.size ≤ g := by rw [HG.out]; exact Nat.le_refl _
      have hci : CmpOK l g B1 B2 W := cmp_ok (HL.out.step (HIA.out.1.mono hn0)) HIA.out.2.1 HIA.out.2.2 hgw
      have HSF := Lib.hid (sortf_any B1 B2 g k k l wr ho HN.out (hci.step (by rw [← HG.out]; exact HB.out)) hl)
      clear ho HO hci hgw
      gi_wp2_with fail
      refine ⟨trivial, ?_⟩
      refine (callsIn_wide.2 HSF.out).mono ?_
      rintro e w2 ⟨rfl, ⟨s, o2, hs⟩, bb⟩
      have HOC := Lib.hid o2.oc
      have HST := Lib.hid hs
      have HB2 := Lib.hid (HB.out.trans (by rw [HG.out]; exact bb))
      have HLS := Lib.hid (show s.length = k by have := hs.len; simpa using this)
      have HIV := Lib.hid (HIA.out.step (by rw [HG.out]; exact hnW) HB2.out)
      obtain ⟨z, hz⟩ := lift_fin hs
      have HLZ := Lib.hid (show z.length = k from (show z.length = (z.map Fin.val).length by simp).trans ((congrArg List.length hz).trans HLS.out))
      have HZ := Lib.hid hz
      clear hz
      have HJ := Lib.hid (show J (z.take 0) w2 from HA.out [] W w2 none HJ0.out (grown_of_below HB2.out) (by intro r h; cases h))
      clear o2 hs bb HB HSF
      gi_wp2_with fail
      gi_loopw [26] (fun iv wr => ∃ j : Nat, j ≤ k ∧ iv = .int .i64 j ∧ Hid (OC wr g s) ∧ Hid (Iv w00 wr n0 B1 B2 (.slice va k vc)) ∧ Hid (J (z.take j) wr)) (fun iv _ => k - (intOf iv).toNat)
      case atStart => exact ⟨0, by omega, rfl, HOC, HIV, HJ⟩
      case round =>
        clear HOC HIV HJ HB2
        obtain ⟨j, hj, rfl, HOC, HIV, HJ⟩ := hrel
        by_cases hlj : j < k
        · obtain ⟨x, hx⟩ : ∃ x, s.getD j 0 = x := ⟨_, rfl⟩
          have x0 := HOC.out j (by rw [HLS.out]; exact hlj)
          rw [hx] at x0
          have hxn : x < k := by
            have := HST.out.mem (x := x) (by rw [← hx]; exact getD_mem (by rw [HLS.out]; exact hlj))
            omega
          have x1 := (HIV.out.2.2.cell 0).trans (rfl : _ = some (Value.slice va k vc))
          have HC := Lib.hid (HL.out.step (HIV.out.1.mono hn0))
          obtain ⟨a9, c9, e9, -, -, hcs⟩ := HC.out
          obtain ⟨ib, ioff, ea, hcs2⟩ := hcs (by intro e; have := HN.out; rw [e] at this; simp at this; omega)
          obtain ⟨e91, e93⟩ : va = a9 ∧ vc = c9 := by cases e9; exact ⟨rfl, rfl⟩
          clear e9
          subst e91 e93
          subst ea
          have hg0 := hcs2 x _ (win_get (d := (0, 0)) (by rw [HN.out]; exact hxn))
          obtain ⟨y0, y1⟩ := hg0
          have hzx : z[j]'(by rw [HLZ.out]; exact hlj) = ⟨x, hxn⟩ := by
            apply Fin.ext
            show (z[j]'(by rw [HLZ.out]; exact hlj)).val = x
            rw [← hx, ← HZ.out]
            simp [HLZ.out, hlj]
          have HP := Lib.hid (show z.take (j + 1) = z.take j ++ [⟨x, hxn⟩] by
            rw [List.take_add_one, List.getElem?_eq_getElem (by rw [HLZ.out]; exact hlj), hzx]
            rfl)
          have HTL := Lib.hid (show (z.take j).length < k by rw [List.length_take, HLZ.out]; omega)
          have hpx : cen l x = #[.int .i64 x, .agg #[.int .i64 (l.getD x (0, 0)).1, .int .i64 (l.getD x (0, 0)).2]] := rfl
          have HYY := Lib.hid (HY.out _ ⟨x, hxn⟩ _ HJ.out HTL.out)
          rw [hpx] at HYY
          generalize l.getD x (0, 0) = p at *
          obtain ⟨p1, p2⟩ := p
          simp only at y0 y1 HYY
          have t1 : (j : Int) < (k : Int) := by omega
          have t2 : (x : Int) < (k : Int) := by omega
          clear hcs hcs2 hx hpx HC hzx
          gi_wp2_with fail
          obtain ⟨fn, tmps, assign, body, hy, hRR⟩ := HYY.out
          rw [hy]
          gi_wp2
          refine hRR.mono ?_
          rintro e W4 (⟨rfl, hJ4, hB4⟩ | ⟨rfl, hJx4⟩)
          · have HJ4 := Lib.hid (show J (z.take (j + 1)) W4 by rw [HP.out]; exact hJ4)
            have HO4 := Lib.hid (HOC.out.kq hB4 (by omega) (by omega))
            have HI4 := Lib.hid (HIV.out.kq hB4 hb1 hb2)
            clear hJ4 hB4 hRR hy HJ HOC HIV x0 x1 y0 y1 HYY
            gi_wp2
            go_roundw
            case rel => exact ⟨j + 1, hlj, by go_num, HO4, HI4, HJ4⟩
            case measure => simp [intOf]; omega
          · gi_wp2
            refine bodyPost_ret (results_none rfl _ _ _) rfl ?_
            exact ⟨⟨_, rfl⟩, .inr ⟨_, trivial, hJx4⟩⟩
        · obtain rfl : j = k := by omega
          gi_wp2
          go_end0
          exact ⟨⟨_, rfl⟩, .inl ⟨z, by rw [HZ.out]; exact HST.out, by have := HJ.out; rwa [List.take_of_length_le (by rw [HLZ.out]; exact Nat.le_refl _)] at this⟩⟩
theorem iter_stops (l : List (Int × Int)) (N : Nat) (hN : l.length = N) (v : Value) (hl : N ≤ 100000) (w00 w0 : World) (n0 KB SB B1 B2 : Nat) (hL : ConsAt w00 v l) (hn0 : w00.heap.size ≤ n0) (hb1 : B1 ≠ KB ∧ B1 ≠ SB) (hb2 : B2 ≠ KB ∧ B2 ≠ SB)
    (hI : Iv w00 w0 n0 B1 B2 v) (hnW : n0 ≤ w0.heap.size) (hK : KB < w0.heap.size) (hS : SB < w0.heap.size) (n : Nat) (hn : 1 ≤ n) :
    SeqStopsK Fence.wide n Try.prog 36 #[.pointer (some ⟨B2, 0, none⟩), .pointer (some ⟨B1, 0, none⟩)] (fun x : Fin N => cen l x.1) (Kq n0 KB SB) (fun ys => IsST (pri l) 0 N (ys.map Fin.val)) (fun _ => True) N w0 := fun lp J Jx W hW hA _ hY h0 =>
  iter1 l N hN v hl w00 n0 KB SB B1 B2 hL hn0 hb1 hb2 n lp J Jx W (hI.step hnW hW) (Nat.le_trans hnW hW.size) (Nat.lt_of_lt_of_le hK hW.size) (Nat.lt_of_lt_of_le hS hW.size) hA hY h0 hn
end Go.Proofs.Ytpablikcidlkaaa
