/- Delivery: the laws on acts. -/
import Derived.Test.YtkamkkjijjkfdaaGr
import Derived.StillTailTactics
import Derived.BigQuiet
namespace Go.Proofs.Ytkamkkjijjkfdaa
open Go.RowKit

theorem BoxN.set {w : World} {b : Nat} {t : TypeId} {vs : Array Value} (h : BoxN w b vs t) (j : Nat) (v : Value) {vs' : Array Value} (hvs : vs.setIfInBounds j v = vs') : BoxN (w.setCell ⟨b, j, none⟩ v) b vs' t := by
  subst hvs
  have h' : w.heap[b]? = some (.cells vs t (0, 0)) := h
  have hl := h.lt
  have h2 : w.heap[b] = .cells vs t (0, 0) := by simpa [Array.getElem?_eq_getElem hl] using h'
  show (w.heap.modify b _)[b]? = _
  rw [Array.getElem?_eq_getElem (by simpa using hl), Array.getElem_modify_self, h2]
  rfl
def wnt (D : List Od) (k : Nat) : Array Value := ((vals (D.take k)).map (Value.int .i64)).toArray
theorem vals_len (D : List Od) : (vals D).length = 4 := by
  have : ∀ (D : List Od) (l : List Int), (D.foldl (fun v x => v.set x.c.toNat x.d) l).length = l.length := by
    intro D
    induction D with
    | nil => intro l; rfl
    | cons x D ih => intro l; rw [List.foldl_cons, ih, List.length_set]
  exact this D _
theorem take_app {D : List Od} {k : Nat} {x : Od} (h : D[k]? = some x) : D.take (k + 1) = D.take k ++ [x] := by rw [List.take_add_one, h]; rfl
theorem wnt_next {D : List Od} {k c : Nat} {x : Od} (h : D[k]? = some x) (hc : x.c = (c : Int)) : (wnt D k).setIfInBounds c (.int .i64 x.d) = wnt D (k + 1) := by
  unfold wnt
  rw [take_app h, vals_app, hc]
  apply Array.toList_inj.1
  rw [Array.toList_setIfInBounds]
  simp [List.map_set]
theorem wnt_cell {w : World} {B : Nat} {D : List Od} {k c : Nat} (h : BoxN w B (wnt D k) 3) (hc : c < 4) : w.cell? ⟨B, c, none⟩ = some (.int .i64 ((vals (D.take k)).getD c 0)) ∧ w.frozen? ⟨B, c, none⟩ = false := by
  have h' : w.heap[B]? = some (.cells (wnt D k) 3 (0, 0)) := h
  have hcs := Cs.of_heap h'
  have hl : c < (vals (D.take k)).length := by rw [vals_len]; exact hc
  exact ⟨hcs.c c (by simp [wnt, hl]), hcs.f c (by simp [wnt]; exact hl)⟩
theorem wnt_ints {w : World} {B : Nat} {D : List Od} {k : Nat} (h : BoxN w B (wnt D k) 3) : IntsAt w (.slice (some ⟨B, 0, none⟩) 4 4) (vals (D.take k)) := by
  have h' : w.heap[B]? = some (.cells (wnt D k) 3 (0, 0)) := h
  have hcs := Cs.of_heap h'
  refine ⟨_, 4, by rw [vals_len], by rw [vals_len]; unfold maxLen; decide, fun _ => ⟨B, 0, rfl, fun i x hi => ?_⟩⟩
  rw [Nat.zero_add]
  exact hcs.c i (by simp [wnt, hi])
theorem hmk4 : ∀ w, (Instr.makeSlice 28 (.int .i64 4) (.int .i64 4)).run Try.prog w = .ok (.slice (some ⟨w.heap.size, 0, none⟩) 4 4) (w.alloc (.cells #[.int .i64 0, .int .i64 0, .int .i64 0, .int .i64 0] 3)) := fun _ => by kernel_rfl
set_option maxRecDepth 100000 in
set_option maxHeartbeats 8000000 in
theorem once_any (v : Value) (l : List Ac) (w : World) (h : AcsAt w v l) : Calls Try.prog 4 #[v] w fun e w' => e = .returned (.bool true) ∧ Below w.heap.size w w' := by
  have HL := Lib.hid h
  obtain ⟨sa, sc, rfl, hm, -, -⟩ := h
  unfold maxLen at hm
  by_cases hl : 200 < l.length
  · have g1 : decide ((l.length : Int) > 200) = true := by simp; omega
    have g2 : decide (200 < (l.length : Int)) = true := by simp; omega
    have g3 : decide (200 < l.length) = true := decide_eq_true hl
    go_enter Try.func4, Try.ntmps4
    go_wp2_with fail
    refine (head_any _).mono ?_
    rintro e u ⟨rfl, b⟩
    have HB := Lib.hid b
    clear b
    go_wp2
    go_ret
    exact ⟨rfl, HB.out⟩
  have g1 : decide ((l.length : Int) > 200) = false := by simp; omega
  have g2 : decide (200 < (l.length : Int)) = false := by simp; omega
  have g3 : decide (200 < l.length) = false := decide_eq_false hl
  have HLN := Lib.hid (show l.length ≤ 200 by omega)
  clear hl
  go_enter Try.func4, Try.ntmps4
  go_wp2_with fail
  refine (head_any _).mono ?_
  rintro e u ⟨rfl, b⟩
  have HB := Lib.hid b
  have HLu := Lib.hid (HL.out.step b)
  clear b
  go_wp2_with fail
  refine (play_any _ l false _ HLu.out HLN.out).mono ?_
  rintro e WA ⟨n, rfl, hS, b2⟩
  have HB2 := Lib.hid (keep2 b2 HB.out)
  obtain ⟨nx, P, t, L, f, V, dn, A, D, ⟨pa, ta, va, aa, da, pc, tc, vc, ac, dc, hw⟩, hi⟩ := hS
  have HW := Lib.hid hw
  have HI := Lib.hid hi
  clear b2 HB HLu g1 g2 g3 hw hi
  have hdn : dn = (D.length : Int) := HI.out.dl
  subst hdn
  go_upto_region 5 with fail
  have x6 := HW.out.cs.c 6 rfl
  have x8 := HW.out.cs.c 8 rfl
  have xz := HW.out.cs.2.2
  go_quiet (fail)
  go_wp2
  go_ret
  exact ⟨rfl, HB2.out.trans (below_drewN' _ _ _)⟩
set_option maxRecDepth 100000 in
set_option maxHeartbeats 8000000 in
theorem values_any (v : Value) (l : List Ac) (w : World) (h : AcsAt w v l) : Calls Try.prog 6 #[v] w fun e w' => e = .returned (.bool true) ∧ Below w.heap.size w w' := by
  have HL := Lib.hid h
  obtain ⟨sa, sc, rfl, hm, -, -⟩ := h
  unfold maxLen at hm
  by_cases hl : 200 < l.length
  · have g1 : decide ((l.length : Int) > 200) = true := by simp; omega
    have g2 : decide (200 < (l.length : Int)) = true := by simp; omega
    have g3 : decide (200 < l.length) = true := decide_eq_true hl
    go_enter Try.func6, Try.ntmps6
    go_wp2_with fail
    refine (head_any _).mono ?_
    rintro e u ⟨rfl, b⟩
    have HB := Lib.hid b
    clear b
    go_wp2
    go_ret
    exact ⟨rfl, HB.out⟩
  have g1 : decide ((l.length : Int) > 200) = false := by simp; omega
  have g2 : decide (200 < (l.length : Int)) = false := by simp; omega
  have g3 : decide (200 < l.length) = false := decide_eq_false hl
  have HLN := Lib.hid (show l.length ≤ 200 by omega)
  clear hl
  go_enter Try.func6, Try.ntmps6
  go_wp2_with fail
  refine (head_any _).mono ?_
  rintro e u ⟨rfl, b⟩
  have HB := Lib.hid b
  have HLu := Lib.hid (HL.out.step b)
  clear b
  go_wp2_with fail
  refine (play_any _ l false _ HLu.out HLN.out).mono ?_
  rintro e WA ⟨n, rfl, hS, b2⟩
  have HB2 := Lib.hid (keep2 b2 HB.out)
  obtain ⟨nx, P, t, L, f, V, dn, A, D, ⟨pa, ta, va, aa, da, pc, tc, vc, ac, dc, hw⟩, hi⟩ := hS
  have HW := Lib.hid hw
  have HI := Lib.hid hi
  clear b2 HB HLu g1 g2 g3 hw hi
  have hmk := hmk4
  have HX0 := Lib.hid (show BoxN (WA.alloc (.cells #[.int .i64 0, .int .i64 0, .int .i64 0, .int .i64 0] 3)) WA.heap.size (wnt D 0) 3 from BoxN.new WA _ 3)
  have HBA := Lib.hid (al WA (.cells #[.int .i64 0, .int .i64 0, .int .i64 0, .int .i64 0] 3))
  go_wp2_with fail
  obtain ⟨W0, hW0⟩ : ∃ z, WA.alloc (.cells #[.int .i64 0, .int .i64 0, .int .i64 0, .int .i64 0] 3) = z := ⟨_, rfl⟩
  try rw [hW0] at HX0 HBA ⊢
  clear hW0 hmk
  have HLB := Lib.hid (show lastB (D.take 0) = 0 from rfl)
  go_loopw [7, 8] (fun fv iv wr => ∃ k : Nat, k ≤ D.length ∧ fv = .int .i64 (lastB (D.take k)) ∧ iv = .int .i64 k ∧ Hid (BoxN wr WA.heap.size (wnt D k) 3) ∧ Hid (Below WA.heap.size WA wr)) (fun fv iv _ => D.length - (intOf iv).toNat)
  case atStart => exact ⟨0, by omega, by rw [HLB.out], rfl, HX0, HBA⟩
  case round =>
    obtain ⟨k, hk, rfl, rfl, HX, HR⟩ := hrel
    have hWr := HW.out.step HR.out
    have HWr := Lib.hid hWr
    obtain ⟨xa, xc, hv1, -, hmd, hx⟩ := ods_of_row rfl hWr.dl
    obtain ⟨rfl, rfl⟩ : da = xa ∧ dc = xc := by simpa using hv1
    unfold maxLen at hmd
    have x8 := hWr.cs.c 8 rfl
    have xz := hWr.cs.2.2
    clear hWr hv1
    by_cases hlt : k < D.length
    · obtain ⟨b1, o1, rfl, hx1⟩ := hx (by intro e; rw [e] at hlt; simp at hlt)
      obtain ⟨x, hkx⟩ : ∃ x, D[k]? = some x := ⟨_, List.getElem?_eq_getElem hlt⟩
      obtain ⟨y0, y1, y2, y3⟩ := hx1 k x hkx
      obtain ⟨j, hj⟩ := HI.out.da x (List.mem_of_getElem? hkx)
      obtain ⟨-, ho, hc4, -⟩ := HI.out.ai j x hj
      have hb := (orB_iff ho).2.2.1
      obtain ⟨cn, hcn⟩ : ∃ cn : Nat, x.c = (cn : Int) := ⟨x.c.toNat, by omega⟩
      have HNX := Lib.hid (wnt_next hkx hcn)
      have HLB2 := Lib.hid (show lastB (D.take (k + 1)) = x.b by rw [take_app hkx, lastB_app])
      rw [hcn] at y2 hc4
      have hc5 : cn < 4 := by omega
      obtain ⟨z0, z1⟩ := wnt_cell HX.out hc5
      have z2 : WA.heap.size < wr.heap.size := HX.out.lt
      have yz : b1 < wr.heap.size := World.block_lt_of_cell? _ _ y0
      have t1 : (k : Int) < (D.length : Int) := by omega
      have t2 : (cn : Int) < (4 : Int) := hc4
      have t3 : decide ((cn : Int) ≥ 4) = false := by simp; omega
      have t4 : decide ((4 : Int) ≤ (cn : Int)) = false := by simp; omega
      have t5 : decide (4 ≤ cn) = false := by simp; omega
      have t6 : decide ((cn : Int) < 0) = false := by simp
      obtain ⟨xb, hxb⟩ : ∃ z, x.b = z := ⟨_, rfl⟩
      obtain ⟨xd, hxd⟩ : ∃ z, x.d = z := ⟨_, rfl⟩
      rw [hxb] at y1 HLB2
      rw [hxd] at y3 HNX
      generalize (vals (D.take k)).getD cn 0 = zz at z0
      clear hx hx1 hkx hj ho hc4 hb hcn hxb hxd y0
      skip
      go_upto_region 12 with fail
      go_still_tail 18, (by kernel_rfl)
      change wpList _ _ _ _ _ wr.drew
      obtain ⟨w2, hw2⟩ : ∃ z, wr.drew = z := ⟨_, rfl⟩
      have b0 : Below wr.heap.size wr w2 := by rw [← hw2]; exact below_drew _ _
      rw [hw2]
      clear hw2
      have HX2 := Lib.hid (BoxN.set (HX.out.step b0) cn (.int .i64 xd) HNX.out)
      have HR2 := Lib.hid ((keep2 b0 HR.out).setCell (p := ⟨WA.heap.size, cn, none⟩) (Nat.le_refl _) (.int .i64 xd))
      have HG2 := Lib.hid (grown_set w2 WA.heap.size cn (.int .i64 xd))
      have z0' := keep1 b0 z0
      have z1' : w2.frozen? ⟨WA.heap.size, cn, none⟩ = false := (wnt_cell (HX.out.step b0) hc5).2
      have z2' : WA.heap.size < w2.heap.size := (HX.out.step b0).lt
      have HBN := Lib.hid (show b1 < WA.heap.size from row_ltN HW.out.dl (Nat.le_refl _) b1 o1 rfl)
      have w8 : (w2.setCell ⟨WA.heap.size, cn, none⟩ (.int .i64 xd)).cell? ⟨n, 8, none⟩ = _ := (HW.out.step HR2.out).cs.c 8 rfl
      have wz : n < (w2.setCell ⟨WA.heap.size, cn, none⟩ (.int .i64 xd)).heap.size := (HW.out.step HR2.out).cs.2.2
      have w1 : (w2.setCell ⟨WA.heap.size, cn, none⟩ (.int .i64 xd)).cell? ⟨b1, o1 + k * 4 + 1, none⟩ = some (.int .i64 xb) := HG2.out.cell (keep1 b0 y1) (by have := HBN.out; simp; omega)
      have wb : b1 < (w2.setCell ⟨WA.heap.size, cn, none⟩ (.int .i64 xd)).heap.size := World.block_lt_of_cell? _ _ w1
      clear b0 HX HR HWr x8 xz y1 y2 y3 yz z0 z1 z2
      go_wp2_with fail
      skip
      go_roundw
      case rel => exact ⟨k + 1, hlt, by rw [HLB2.out], by go_num, HX2, HR2⟩
      case measure => simp [intOf]; omega
    · obtain rfl : k = D.length := by omega
      have hf : f = lastB (D.take D.length) := by rw [List.take_length]; exact HI.out.ff
      have HV := Lib.hid (show decide (V = vals (D.take D.length)) = true by rw [List.take_length]; exact decide_eq_true HI.out.vv)
      have x4 := HWr.out.cs.c 4 rfl
      have x5 := HWr.out.cs.c 5 rfl
      rw [hf] at x4
      clear hx hf
      go_wp2_with fail
      refine (ints_any _ _ V (vals (D.take D.length)) _ HWr.out.vv (wnt_ints HX.out)).mono ?_
      rintro e w3 ⟨rfl, nq, rfl⟩
      rw [HV.out]
      go_wp2
      go_ret
      exact ⟨rfl, (HB2.out.trans (HR.out.mono HB2.out.size)).trans (below_drewN' _ _ _)⟩
end Go.Proofs.Ytkamkkjijjkfdaa
