/- Capabilities: 'Genuine'. -/
import Derived.Test.YtoaleijfpocdjaaKe
import Derived.Maps.AppendAt
import Derived.Shelf.Abstract
import Derived.Shelf.RegionOpen
namespace Go.Proofs.Ytoaleijfpocdjaa
open Go.RowKit
attribute [local go_sem] Oper.semAt_some

/-- What 'Genuine' tells. -/
def gnB (key id tag : Int) (l : List Cv) : Bool := inr key 0 2147483646 && (capB id tag l && decide (tk (tg0 key id) l l.length = tag))
theorem cap_len {id tag : Int} {l : List Cv} (h : capB id tag l = true) : l.length ≤ 12 := by
  unfold capB at h
  simp only [Bool.and_eq_true, decide_eq_true_eq] at h
  exact h.2.2.1
set_option maxRecDepth 100000 in
set_option maxHeartbeats 2000000 in
theorem genuine_key (key id tag : Int) (v : Value) (l : List Cv) (w : World) (h : CvsAt w v l) (hk : inr key 0 2147483646 = false) : Calls Try.prog 16 #[.int .i64 key, .agg #[.int .i64 id, v, .int .i64 tag]] w fun e w' => e = .returned (.bool false) ∧ Below w.heap.size w w' := by
  obtain ⟨a, cap, rfl, -, hm, -⟩ := h
  have HK := Lib.hid hk
  clear hk hm
  go_enter Try.func16, Try.ntmps16
  go_wp2_with fail
  refine (within_q key 0 2147483646 _ HK.out _).mono ?_
  rintro e w' ⟨rfl, rfl⟩
  go_wp2
  go_ret
  exact ⟨rfl, al _ _⟩
set_option maxRecDepth 100000 in
set_option maxHeartbeats 2000000 in
theorem genuine_cap (key id tag : Int) (v : Value) (l : List Cv) (w : World) (h : CvsAt w v l) (hk : inr key 0 2147483646 = true) (hc : capB id tag l = false) : Calls Try.prog 16 #[.int .i64 key, .agg #[.int .i64 id, v, .int .i64 tag]] w fun e w' => e = .returned (.bool false) ∧ Below w.heap.size w w' := by
  have H := Lib.hid h
  obtain ⟨a, cap, rfl, -, hm, -⟩ := h
  have HK := Lib.hid hk
  have HC := Lib.hid hc
  have HB0 := Lib.hid (al w (.cells #[.int .i64 id, .slice a l.length cap, .int .i64 tag] 30))
  clear hk hm hc
  go_enter Try.func16, Try.ntmps16
  go_wp2_with fail
  refine (within_q key 0 2147483646 _ HK.out _).mono ?_
  rintro e w' ⟨rfl, rfl⟩
  go_wp2_with fail
  refine (isCap_any id tag _ l _ (H.out.step HB0.out)).mono ?_
  rintro e w1 ⟨rfl, b1⟩
  rw [HC.out]
  have HB1 := Lib.hid (keep2 b1 HB0.out)
  clear b1
  go_wp2
  go_ret
  exact ⟨rfl, HB1.out⟩
theorem boxN_own {β : Type} (B : Nat) (t : TypeId) (f : β → Array Value) : Own (fun s W => BoxN W B (f s) t) := fun s X Y row hs hg hrow =>
  (hg.block B hs.lt (fun e' => by obtain ⟨o, ho, hc⟩ := hrow B e'.symm; rw [show X.heap[B]? = _ from hs] at ho; cases ho; cases hc)).trans hs
theorem BoxN.other {W : World} {B B' : Nat} {t : TypeId} {vs : Array Value} (h : BoxN W B vs t) (hne : B ≠ B') (j : Nat) (u : Value) : BoxN (W.setCell ⟨B', j, none⟩ u) B vs t := (Below.heap_setCell W ⟨B', j, none⟩ u B hne).trans h
/-- The last of a list. -/
def lastD (l : List Int) : Int := l.getLastD 0
theorem lastD_snoc (l : List Int) (x : Int) : lastD (l ++ [x]) = x := by simp [lastD]
theorem lastD_chL (t0 : Int) (l : List Cv) : lastD (chL t0 l) = tk t0 l l.length := by
  have h := chL_take t0 l l.length (by omega)
  rw [List.take_of_length_le (by rw [chL_len]; omega)] at h
  rw [h, lastD_snoc]
set_option maxRecDepth 100000 in
set_option maxHeartbeats 4000000 in
theorem genuine_in (key id tag : Int) (v : Value) (l : List Cv) (w : World) (h : CvsAt w v l) (hk : inr key 0 2147483646 = true) (hc : capB id tag l = true) : CallsIn Fence.wide 9 Try.prog 16 #[.int .i64 key, .agg #[.int .i64 id, v, .int .i64 tag]] w fun e w' => e = .returned (.bool (decide (tk (tg0 key id) l l.length = tag))) ∧ Below w.heap.size w w' := by
  have H := Lib.hid h
  obtain ⟨a, cap, rfl, -, -, -⟩ := h
  have HK := Lib.hid hk
  have HC := Lib.hid hc
  have HL := Lib.hid (cap_len hc)
  have HB0 := Lib.hid (al w (.cells #[.int .i64 id, .slice a l.length cap, .int .i64 tag] 30))
  have KA := Lib.hid (Cs.new w w.heap.size #[.int .i64 id, .slice a l.length cap, .int .i64 tag] 30 rfl)
  clear hk hc
  refine callsIn_of_wp_marks Try.func16 rfl trivial ?_ rfl
  simp only [Try.ntmps16, List.size_toArray, List.length_cons, List.length_nil, Nat.reduceAdd, Nat.reduceSub, Array.replicate_succ, Array.replicate_zero, List.push_toArray, List.append_toArray, List.nil_append, List.cons_append]
  gi_wp2_with (refine ⟨trivial, ?_⟩; gi_at_call 27; refine (callsIn_wide.2 (within_q key 0 2147483646 _ HK.out _)).mono ?_; rintro e w' ⟨rfl, rfl⟩)
  refine ⟨trivial, ?_⟩
  refine (callsIn_wide.2 (isCap_any id tag _ l _ (H.out.step HB0.out))).mono ?_
  rintro e w1 ⟨rfl, b1⟩
  rw [HC.out]
  have HB1 := Lib.hid (keep2 b1 HB0.out)
  have KA1 := Lib.hid (KA.out.step b1)
  have HXA := Lib.hid (BoxN.new w #[.int .i64 id, .slice a l.length cap, .int .i64 tag] 30)
  have b1c := b1
  clear b1 HB0 KA
  replace b1c := Lib.hid b1c
  have xA0 := KA1.out.c 0 rfl
  have xA1 := KA1.out.c 1 rfl
  have xA2 := KA1.out.c 2 rfl
  have zA := KA1.out.2.2
  have zA2 : w.heap.size < w1.heap.size + 1 := by omega
  gi_wp2_with (refine ⟨trivial, ?_⟩; gi_at_call 23; refine (callsIn_wide.2 (chain_any key id tag _ _ _ _)).mono ?_; rintro e w' ⟨rfl, rfl⟩)
  clear xA0 xA1 xA2
  have bL := ((Boxed.new w1 3 (.int .i64 0)).alloc (.cells #[.int .i64 key] 3)).alloc (.cells #[.int .i64 id, .slice a l.length cap, .int .i64 tag] 30)
  have bK := (BoxN.new (w1.alloc (.cells #[.int .i64 0] 3)) #[.int .i64 key] 3).step (al _ (.cells #[.int .i64 id, .slice a l.length cap, .int .i64 tag] 30))
  have bC := BoxN.new ((w1.alloc (.cells #[.int .i64 0] 3)).alloc (.cells #[.int .i64 key] 3)) #[.int .i64 id, .slice a l.length cap, .int .i64 tag] 30
  have KA2 := ((KA1.out.alloc (.cells #[.int .i64 0] 3)).alloc (.cells #[.int .i64 key] 3)).alloc (.cells #[.int .i64 id, .slice a l.length cap, .int .i64 tag] 30)
  have hB0 : Below w.heap.size w (((w1.alloc (.cells #[.int .i64 0] 3)).alloc (.cells #[.int .i64 key] 3)).alloc (.cells #[.int .i64 id, .slice a l.length cap, .int .i64 tag] 30)) := keep2 al3 HB1.out
  have hsz : (((w1.alloc (.cells #[.int .i64 0] 3)).alloc (.cells #[.int .i64 key] 3)).alloc (.cells #[.int .i64 id, .slice a l.length cap, .int .i64 tag] 30)).heap.size = w1.heap.size + 1 + 1 + 1 := by simp
  rw [World.size_alloc] at bK
  rw [World.size_alloc, World.size_alloc] at bC
  have HX := Lib.hid (show BoxN w1 w.heap.size #[.int .i64 id, .slice a l.length cap, .int .i64 tag] 30 from HXA.out.step b1c.out)
  have bX := HX.out.step (al3 (w := w1) (o1 := .cells #[.int .i64 0] 3) (o2 := .cells #[.int .i64 key] 3) (o3 := .cells #[.int .i64 id, .slice a l.length cap, .int .i64 tag] 30))
  obtain ⟨W0, hW0⟩ : ∃ W0, ((w1.alloc (.cells #[.int .i64 0] 3)).alloc (.cells #[.int .i64 key] 3)).alloc (.cells #[.int .i64 id, .slice a l.length cap, .int .i64 tag] 30) = W0 := ⟨_, rfl⟩
  rw [hW0] at bL bK bC hB0 hsz bX ⊢
  clear hW0 KA2 b1c
  have hz9 := HB1.out.size
  refine wpIn_rangeFunc_ownG rfl (by omega) (gf := 43) (lb := #[.pointer (some ⟨w1.heap.size + 1, 0, none⟩), .pointer (some ⟨w1.heap.size + 1 + 1, 0, none⟩)]) rfl trivial (enters_of Try.func43 (by kernel_rfl) rfl)
    (iter_stops key id tag l _ w H.out (by have := HL.out; omega) 8 (by omega) (w1.heap.size + 1) (w1.heap.size + 1 + 1) W0 hB0 bK bC) Keep.trans (fun W l o o' => Keep.putObj (by omega) W l o o') (Below.refl _ _) (fun _ => rfl)
    (fun pre W => ((Boxed W w1.heap.size 3 (.int .i64 (lastD pre)) ∧ BoxN W (w1.heap.size + 1 + 1) #[.int .i64 id, .slice a l.length cap, .int .i64 tag] 30) ∧ BoxN W w.heap.size #[.int .i64 id, .slice a l.length cap, .int .i64 tag] 30) ∧ Below w.heap.size w W)
    (fun _ _ _ => False)
    (OwnFrom.and (OwnFrom.and (OwnFrom.and (Own.from (boxed_own w1.heap.size 3 (fun pre : List Int => Value.int .i64 (lastD pre))) _) (Own.from (boxN_own _ _ _) _)) (Own.from (boxN_own _ _ _) _)) (ownFrom_below (Nat.le_refl _) (by omega)))
    (fun _ _ _ _ _ hs _ _ => hs)
    ⟨⟨⟨bL, bC⟩, bX⟩, hB0⟩
    (fun x => { tmps := #[.int .i64 key, .agg #[.int .i64 id, .slice a l.length cap, .int .i64 tag], undef, .pointer (some ⟨w.heap.size, 0, none⟩), .bool false, .pointer (some ⟨w1.heap.size, 0, none⟩), .int .i64 x, .int .i64 key, .bool true, .bool false, .bool false, .agg #[.int .i64 id, .slice a l.length cap, .int .i64 tag], .bool true, .bool false, .bool false, .int .i64 key, .agg #[.int .i64 id, .slice a l.length cap, .int .i64 tag], .func (.func 43) #[] #[.pointer (some ⟨w1.heap.size + 1, 0, none⟩), .pointer (some ⟨w1.heap.size + 1 + 1, 0, none⟩)], .int .i64 x, undef, undef, undef, undef, undef], defers := [] }) ?assign ?body ?done ?stop
  case assign =>
    intro lp x W K hK
    gi_wp2
    exact hK
  case body =>
    rintro lp pre x W ⟨⟨⟨hv, c1⟩, c2⟩, hB⟩ hlt
    have hc := hv.cell
    have hf := hv.frozen
    have hl := hv.lt
    have HV := Lib.hid hv
    have C1 := Lib.hid c1
    have C2 := Lib.hid c2
    clear hv c1 c2
    gi_wp2
    exact ⟨(KeepsOthers.setCell _ _ _).from _, ⟨(Below.refl _ _).setCell (by simp; omega) _, fun o ho _ => by rw [show W.heap[w1.heap.size + 1 + 1]? = _ from C1.out] at ho; cases ho; exact C1.out.other (by omega) _ _⟩, ⟨⟨by rw [lastD_snoc]; exact HV.out.set _, C1.out.other (by omega) _ _⟩, C2.out.other (by omega) _ _⟩, hB.setCell (by simp; omega) _⟩
  case done =>
    rintro D ys W hD hys ⟨⟨⟨hv, -⟩, c2⟩, hB⟩ hK
    have hc := hv.cell
    have hl := hv.lt
    have y2 := (c2.cell 2).trans (rfl : _ = some (Value.int .i64 tag))
    have yl := c2.lt
    rw [hys, lastD_chL] at hc
    clear hv c2 hys
    gi_wp2
    refine ⟨by simp, .inl ⟨_, _, rfl, run_takeDeferred hK, ?_⟩⟩
    exact ⟨_, results_tmp rfl _ _ _, rfl, hB.trans (belowK_b (w := w) (Nat.le_refl _) W D _ _ (by omega) hK rfl rfl)⟩
  case stop =>
    rintro D c pre W _ _ h _
    exact h.elim
end Go.Proofs.Ytoaleijfpocdjaa
