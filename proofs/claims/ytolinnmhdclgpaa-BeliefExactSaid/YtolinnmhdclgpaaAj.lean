import Derived.Test.YtolinnmhdclgpaaAb
import Derived.Test.YtolinnmhdclgpaaAe
import Derived.Sort.OwnSortedInts
namespace Go.Proofs.Ytolinnmhdclgpaa
open Go.RowKit Go.Sort

theorem below_grown {w w' : World} {B g : Nat} (hg : B ≤ g) (h : w.grownBy w' (some g)) (hB : B ≤ w.heap.size) : Below B w w' :=
  (Below.refl B w).grown h hB (fun k e => by cases e; exact hg)
theorem sort_own (v : Value) (B : Nat) (zs : List Int) (w : World) (h : w.ownsRow B 3 1 v zs.length (zs.map (Value.int .i64))) (h9 : zs.length ≤ 100000) :
    Calls Try.prog 71 #[v] w fun e w' => e = .returned (.tuple #[]) ∧ w'.ownsRow B 3 1 v zs.length ((zs.mergeSort fun x y => decide (x ≤ y)).map (Value.int .i64)) ∧ Below B w w' := by
  rcases h.2 with ⟨rfl, h0⟩ | ⟨g, cap, cur, rfl, h1, h2, h3, h4, h5, h6⟩
  · have hz : zs = [] := List.length_eq_zero_iff.1 h0
    subst hz
    refine (AnyM.slices_Sort_int_none Try.lsort none 0 w).mono ?_
    rintro e w' ⟨rfl, rfl⟩
    exact ⟨rfl, by simpa using h, Below.refl _ _⟩
  · have hb : g < w.heap.size := (Array.getElem?_eq_some_iff.1 h2).1
    rw [Nat.mul_one] at h6
    refine (AnyM.slices_Sort_int Try.lsort g 0 cap zs w (holds_of_blockI h2 h6) hb (by omega)).mono ?_
    rintro e w' ⟨rfl, n, os, rfl⟩
    exact ⟨rfl, ownsRow_sortedI (ss := zs) (by simp) h1 h2 h3 h4 h5, below_grown h1 (grownBy_sortedI _) (by omega)⟩
theorem compact_len (zs : List Int) : (Lib.compact zs).length ≤ zs.length := by
  unfold Lib.compact Lib.compactUpTo
  rw [List.length_map]
  exact Nat.le_trans (List.length_filter_le _ _) (by simp)
theorem compact_own (v : Value) (B : Nat) (zs : List Int) (w : World) (h : w.ownsRow B 3 1 v zs.length (zs.map (Value.int .i64))) (h9 : zs.length ≤ 100000) :
    Calls Try.prog 72 #[v] w fun e w' => ∃ u, e = .returned u ∧ w'.ownsRow B 3 1 u (Lib.compact zs).length ((Lib.compact zs).map (Value.int .i64)) ∧ Below B w w' := by
  rcases h.2 with ⟨rfl, h0⟩ | ⟨g, cap, cur, rfl, h1, h2, h3, h4, h5, h6⟩
  · have hz : zs = [] := List.length_eq_zero_iff.1 h0
    subst hz
    refine (AnyG.slices_Compact_int_empty Try.lcompact none 0 w).mono ?_
    rintro e w' ⟨rfl, rfl⟩
    exact ⟨_, rfl, h, Below.refl _ _⟩
  · have hb : g < w.heap.size := (Array.getElem?_eq_some_iff.1 h2).1
    rw [Nat.mul_one] at h6
    refine (AnyG.slices_Compact_int Try.lcompact g 0 cap zs w (holds_of_blockI h2 h6) (by omega) h3).mono ?_
    rintro e w' ⟨rfl, q, rfl⟩
    have hl := compact_len zs
    have e0 := grow_empty (putRow (Value.int .i64) (Sort.ahead w q) g 0 (Lib.compact zs ++ List.replicate (zs.length - (Lib.compact zs).length) 0).toArray)
    have ht : (Lib.compact zs ++ List.replicate (zs.length - (Lib.compact zs).length) (0 : Int)).length = zs.length := by rw [List.length_append, List.length_replicate]; omega
    refine ⟨_, rfl, ?_, ?_⟩
    · rw [← e0]
      refine ⟨by simp, .inr ⟨g, cap, _, rfl, h1, heap_sortedI _ h2, by omega, h4, by simp [putCells, h5], ?_⟩⟩
      have hx := take_putCellsI cur (Lib.compact zs ++ List.replicate (zs.length - (Lib.compact zs).length) 0) (by rw [ht]; omega)
      have hy := congrArg (List.take (Lib.compact zs).length) hx
      rw [List.take_take, Nat.min_eq_left (by rw [ht]; omega), List.map_append, List.take_append_of_le_length (by simp)] at hy
      rw [Nat.mul_one]
      exact hy.trans (List.take_of_length_le (by simp))
    · rw [← e0]
      exact below_grown h1 (grownBy_sortedI _) (by omega)
theorem contains_own (v : Value) (zs : List Int) (x : Int) (w : World) (h : IntsAt w v zs) (h9 : zs.length ≤ 100000) :
    Calls Try.prog 47 #[v, .int .i64 x] w fun e w' => e = .returned (.bool (zs.contains x)) ∧ w' = w := by
  obtain ⟨a, cap, rfl, -, hc⟩ := h
  cases zs with
  | nil => exact (AnyG.slices_Contains_int_empty Try.lcontains a cap x w).mono fun e w' h => h
  | cons y ys =>
    obtain ⟨b, off, rfl, hx⟩ := hc (by simp)
    have := AnyG.slices_Contains_int Try.lcontains b off (y :: ys).length cap (y :: ys) x w (Nat.le_refl _) (by omega) (fun j hj => hx j _ (getD_of hj))
    rw [List.take_length] at this
    exact this
theorem equal_own (u v : Value) (xs ys : List Int) (w : World) (h1 : IntsAt w u xs) (h2 : IntsAt w v ys) (h9 : xs.length ≤ 100000) (h8 : ys.length ≤ 100000) :
    Calls Try.prog 68 #[u, v] w fun e w' => e = .returned (.bool (xs == ys)) ∧ Below w.heap.size w w' := by
  obtain ⟨a, cap, rfl, -, hc⟩ := h1
  obtain ⟨a2, cap2, rfl, -, hc2⟩ := h2
  cases xs with
  | nil =>
    refine (AnyG.slices_Equal_int_empty Try.lequal a a2 cap ys.length cap2 w (by omega)).mono ?_
    rintro e w' ⟨rfl, rfl⟩
    exact ⟨by cases ys <;> simp, Below.refl _ _⟩
  | cons x xs =>
    obtain ⟨b, off, rfl, hx⟩ := hc (by simp)
    cases ys with
    | nil =>
      have e1 : ((xs.length + 1 : Nat) : Int) ≠ (([] : List Int).length : Int) := by simp; omega
      have e2 : (((xs.length + 1 : Nat) : Int) == (([] : List Int).length : Int)) = false := by simpa using e1
      simp only [List.length_cons]
      go_enter Try.func68, Try.ntmps68
      go_wp2
      go_ret
      exact ⟨by first | rfl | simp, by first | exact Below.refl _ _ | exact below_drew _ _⟩
    | cons y ys =>
      obtain ⟨b2, off2, rfl, hx2⟩ := hc2 (by simp)
      refine (AnyG.slices_Equal_int Try.lequal b off (x :: xs).length cap b2 off2 (y :: ys).length cap2 (x :: xs) (y :: ys) w (Nat.le_refl _) (Nat.le_refl _) (by omega) (by omega) (fun j hj => hx j _ (getD_of hj)) (fun j hj => hx2 j _ (getD_of hj))).mono ?_
      rintro e w' ⟨rfl, q, rfl⟩
      rw [List.take_length, List.take_length]
      exact ⟨rfl, below_drewN' _ _ _⟩
open Go.RowKit

/-- The values of orders, in increasing order, each once. -/
def vof (L : List Od) : List Int := Lib.compact ((L.map Od.d).mergeSort fun x y => decide (x ≤ y))
theorem vof_len (L : List Od) : (vof L).length ≤ L.length := by
  unfold vof
  exact Nat.le_trans (compact_len _) (by simp)
theorem cell_one_new (W : World) (a : Value) (T : TypeId) (n : Nat) (hn : n = W.heap.size) : ∀ j u, [a][j]? = some u → (W.alloc (.cells #[a] T)).cell? ((⟨n, 0, none⟩ : Addr).add j) = some u := by
  subst hn
  intro j u hu
  rw [Go.WideShapes.add_plain, World.cell?_alloc_new]
  simpa using hu
theorem ds_step {L : List Od} {k : Nat} (h : k < L.length) : (L.take (k + 1)).map Od.d = (L.take k).map Od.d ++ [(L.getD k zO).d] := by
  have e : L.take (k + 1) = L.take k ++ [L.getD k zO] := by rw [List.take_add_one, od_get h]; rfl
  rw [e, List.map_append]; rfl
set_option maxRecDepth 100000 in
set_option maxHeartbeats 8000000 in
theorem valuesOf_any (v : Value) (L : List Od) (w : World) (h : OdsAt w v L) (h9 : L.length ≤ 100000) :
    Calls Try.prog 67 #[v] w fun e w' => ∃ u, e = .returned u ∧ w'.ownsRow w.heap.size 3 1 u (vof L).length ((vof L).map (Value.int .i64)) ∧ Below w.heap.size w w' := by
  have HL := Lib.hid h
  obtain ⟨sa, sc, rfl, -, hm, -⟩ := h
  unfold maxLen at hm
  obtain ⟨i0, hi, hz0, hz1, hz2⟩ := info_parts in_info
  go_enter Try.func67, Try.ntmps67
  go_wp2_with fail
  go_loopw [3, 8] (fun v i wr => ∃ k : Nat, k ≤ L.length ∧ i = .int .i64 k ∧ Hid (wr.ownsRow w.heap.size 3 1 v k (((L.take k).map Od.d).map (Value.int .i64))) ∧ Hid (Below w.heap.size w wr)) (fun _ i _ => L.length - (intOf i).toNat)
  case atStart => exact ⟨0, by omega, rfl, Lib.hid (World.ownsRow_nil w w.heap.size 3 1), Lib.hid (Below.refl _ _)⟩
  case round =>
    obtain ⟨k, hk, rfl, HR, HB⟩ := hrel
    have hsz := HB.out.size
    by_cases hlt : k < L.length
    · obtain ⟨a1, c1, hv1, -, -, hcs1⟩ := HL.out.step HB.out
      obtain ⟨rfl, rfl⟩ : sa = a1 ∧ sc = c1 := by simpa using hv1
      obtain ⟨b1, o1, rfl, hx1⟩ := hcs1 (by intro e; rw [e] at hlt; simp at hlt)
      obtain ⟨y0, y1, y2, y3⟩ := hx1 k _ (od_get hlt)
      have yz : b1 < wr.heap.size := World.block_lt_of_cell? _ _ y0
      have t1 : (k : Int) < (L.length : Int) := by omega
      have HT := Lib.hid (ds_step hlt)
      clear hcs1 hx1 hv1
      generalize L.getD k zO = x at *
      have HB1 := Lib.hid (HB.out.alloc hsz (.cells #[.int .i64 x.a, .int .i64 x.b, .int .i64 x.c, .int .i64 x.d] 27))
      have HR1 := Lib.hid (HR.out.alloc (.cells #[.int .i64 x.a, .int .i64 x.b, .int .i64 x.c, .int .i64 x.d] 27))
      clear HR
      go_wp2_with (at_builtin; refine wpList_append_own _ rfl _ _ 22 rfl w.heap.size 3 i0 _ 1 8 Try.underlying22 hi hz0 hz1 hz2 rfl (by decide) _ _ _ rfl (HR1.out.alloc _) ⟨wr.heap.size + 1, 0, none⟩ 1 1 [.int .i64 x.d] rfl rfl (cell_one_new _ _ _ _ (by simp)) (by simp [Value.oneCell']) (by unfold maxLen; omega) (by omega) (by simp; omega) ?_; intro v' w1 hown hgrow _; have HR2 := Lib.hid hown; have HB2 := Lib.hid (below_own (Nat.le_refl _) HB1.out HR1.out hgrow); clear hown hgrow)
      go_roundw
      case rel => exact ⟨k + 1, by omega, by go_num, by rw [HT.out, List.map_append]; exact HR2, HB2⟩
      case measure => simp [intOf]; omega
    · obtain rfl : k = L.length := by omega
      have HQ := Lib.hid (show wr.ownsRow w.heap.size 3 1 _ (L.map Od.d).length ((L.map Od.d).map (Value.int .i64)) by have h := HR.out; rw [List.take_length] at h; rw [List.length_map]; exact h)
      clear HR
      go_wp2_with fail
      refine (sort_own _ _ _ _ HQ.out (by simpa using h9)).mono ?_
      rintro e w2 ⟨rfl, q2, b2⟩
      have HQ2 := Lib.hid (show w2.ownsRow w.heap.size 3 1 _ ((L.map Od.d).mergeSort fun x y => decide (x ≤ y)).length (((L.map Od.d).mergeSort fun x y => decide (x ≤ y)).map (Value.int .i64)) by rw [List.length_mergeSort]; exact q2)
      have HB2 := Lib.hid (HB.out.trans b2)
      clear q2 b2 HQ
      go_wp2_with fail
      refine (compact_own _ _ _ _ HQ2.out (by simpa using h9)).mono ?_
      rintro e w3 ⟨u, rfl, q3, b3⟩
      have HQ3 := Lib.hid q3
      have HB3 := Lib.hid (HB2.out.trans b3)
      clear q3 b3 HQ2
      go_wp2
      go_ret
      exact ⟨_, rfl, HQ3.out, HB3.out⟩
open Go.RowKit

/-- The orders that fly. -/
def flt (L : List Od) : List Od := L.filter fun x => !stB x
/-- An order or a settled value. -/
def okR (x : Od) : Bool := inr x.a (-1) 1000000000 && inr x.b 0 1000000000 && inr x.d 0 15 && !decide (x.c < -1)
/-- The orders follow one another. -/
def wk : Od → List Od → Bool
  | _, [] => true
  | l, x :: xs => okR x && (if stB x = true then wk l xs else !decide (x.a ≤ l.a) && !decide (x.b < l.b) && wk x xs)
def l0 : Od := ⟨-1, 0, 0, 0⟩
/-- A belief that can be changed. -/
def isV (V : List Int) (L : List Od) : Bool := decide ((flt L).length ≤ 8) && decide (L.length ≤ 20) && L.any stB && wk l0 L && (V == vof L)
theorem od_drop {L : List Od} {k : Nat} (h : k < L.length) : L.drop k = L.getD k zO :: L.drop (k + 1) := by
  rw [List.drop_eq_getElem_cons h]
  congr 1
  simp [h]
theorem wk_no {l : Od} {L : List Od} {k : Nat} (h : k < L.length) (hx : okR (L.getD k zO) = false) : wk l (L.drop k) = false := by
  rw [od_drop h]; unfold wk; rw [hx]; rfl
theorem wk_st {l : Od} {L : List Od} {k : Nat} (h : k < L.length) (hx : okR (L.getD k zO) = true) (hs : stB (L.getD k zO) = true) : wk l (L.drop k) = wk l (L.drop (k + 1)) := by
  rw [od_drop h]; conv => lhs; unfold wk
  rw [hx, if_pos hs]; rfl
theorem wk_bad {l : Od} {L : List Od} {k : Nat} (h : k < L.length) (hs : stB (L.getD k zO) = false) (hb : (!decide ((L.getD k zO).a ≤ l.a) && !decide ((L.getD k zO).b < l.b)) = false) : wk l (L.drop k) = false := by
  rw [od_drop h]; unfold wk
  rw [if_neg (by rw [hs]; exact Bool.false_ne_true), hb]; simp
theorem wk_go {l : Od} {L : List Od} {k : Nat} (h : k < L.length) (hx : okR (L.getD k zO) = true) (hs : stB (L.getD k zO) = false) (hb : (!decide ((L.getD k zO).a ≤ l.a) && !decide ((L.getD k zO).b < l.b)) = true) : wk l (L.drop k) = wk (L.getD k zO) (L.drop (k + 1)) := by
  rw [od_drop h]; conv => lhs; unfold wk
  rw [hx, if_neg (by rw [hs]; exact Bool.false_ne_true), hb]; rfl
theorem wk_end {l : Od} {L : List Od} : wk l (L.drop L.length) = true := by rw [List.drop_length]; rfl
set_option maxRecDepth 100000 in
set_option maxHeartbeats 8000000 in
theorem flying_any (k : Nat) (vv v : Value) (L : List Od) (w : World) (hC : Cs w k #[vv, v]) (h : OdsAt w v L) (h9 : L.length ≤ 100000) :
    Calls Try.prog 56 #[.pointer (some ⟨k, 0, none⟩)] w fun e w' => ∃ u, e = .returned u ∧ w'.ownsRow w.heap.size 27 4 u (flt L).length (ocs (flt L)) ∧ Below w.heap.size w w' := by
  have HL := Lib.hid h
  have c0 := hC.c 0 rfl
  have c1 := hC.c 1 rfl
  have cz := hC.2.2
  clear hC h
  go_enter Try.func56, Try.ntmps56
  go_wp2_with fail
  refine (those_any v L 69 #[] _ _ HL.out (flying1_fits _) h9 eg69).mono ?_
  rintro e w2 ⟨u, rfl, hu, b2⟩
  have HU := Lib.hid hu
  have HB := Lib.hid b2
  clear hu b2
  go_wp2
  go_ret
  exact ⟨_, rfl, HU.out, HB.out⟩
set_option maxRecDepth 100000 in
set_option maxHeartbeats 8000000 in
theorem isValid_any (k : Nat) (va : Option Addr) (vc : Nat) (V : List Int) (sa : Option Addr) (sc : Nat) (L : List Od) (w : World) (hC : Cs w k #[.slice va V.length vc, .slice sa L.length sc]) (h : OdsAt w (.slice sa L.length sc) L) (hV : IntsAt w (.slice va V.length vc) V) (h9 : L.length ≤ 100000) (h8 : V.length ≤ 100000) :
    Calls Try.prog 52 #[.pointer (some ⟨k, 0, none⟩)] w fun e w' => e = .returned (.bool (isV V L)) ∧ Below w.heap.size w w' := by
  have HL := Lib.hid h
  have HV := Lib.hid hV
  have HC := Lib.hid hC
  have c0 := hC.c 0 rfl
  have c1 := hC.c 1 rfl
  have cz := hC.2.2
  have H8 := Lib.hid h8
  clear hC h hV h8
  go_enter Try.func52, Try.ntmps52
  go_wp2_with fail
  refine (flying_any k _ _ L _ HC.out HL.out h9).mono ?_
  rintro e w2 ⟨u, rfl, hu, b2⟩
  obtain ⟨ua, uc, rfl⟩ := row_slice hu
  have HC2 := Lib.hid (HC.out.step b2)
  have HL2 := Lib.hid (HL.out.step b2)
  have HV2 := Lib.hid (HV.out.step b2)
  clear c0 c1 cz
  have c0 := HC2.out.c 0 rfl
  have c1 := HC2.out.c 1 rfl
  have cz := HC2.out.2.2
  by_cases h1 : 8 < (flt L).length
  · have e1 : (8 : Int) < ((flt L).length : Int) := by omega
    have HE := Lib.hid (show isV V L = false by unfold isV; rw [decide_eq_false (by omega)]; rfl)
    go_wp2
    go_ret
    exact ⟨by rw [HE.out]; rfl, b2⟩
  have e1 : ¬ (8 : Int) < ((flt L).length : Int) := by omega
  by_cases h2 : 20 < L.length
  · have e2 : (20 : Int) < (L.length : Int) := by omega
    have HE := Lib.hid (show isV V L = false by unfold isV; rw [decide_eq_false (show ¬ L.length ≤ 20 by omega)]; simp)
    go_wp2
    go_ret
    exact ⟨by rw [HE.out]; rfl, b2⟩
  have e2 : ¬ (20 : Int) < (L.length : Int) := by omega
  have HW2 := Lib.hid b2
  clear hu b2
  go_wp2_with fail
  refine (contains_f _ L 60 #[] stB _ HL2.out (settled_fits _) eg60).mono ?_
  rintro e w3 ⟨rfl, b3⟩
  have HC3 := Lib.hid (HC2.out.step b3)
  have HL3 := Lib.hid (HL2.out.step b3)
  have HV3 := Lib.hid (HV2.out.step b3)
  have HW3 := Lib.hid (keep2 b3 HW2.out)
  clear c0 c1 cz b3 HC2 HL2 HV2 HW2
  cases hA : L.any stB
  · have HE := Lib.hid (show isV V L = false by unfold isV; rw [hA]; simp)
    go_wp2
    go_ret
    exact ⟨by rw [HE.out]; rfl, HW3.out⟩
  have HE := Lib.hid (show isV V L = (wk l0 L && (V == vof L)) by unfold isV; rw [hA, decide_eq_true (by omega), decide_eq_true (by omega)]; simp)
  have HW4 := Lib.hid (HW3.out.trans ((al w3 (.cells #[.int .i64 (-1), .int .i64 0, .int .i64 0, .int .i64 0] 27)).mono HW3.out.size))
  have HO4 := Lib.hid (Cs.new w3 w3.heap.size #[.int .i64 (-1), .int .i64 0, .int .i64 0, .int .i64 0] 27 rfl)
  have HC4 := Lib.hid (HC3.out.alloc (.cells #[.int .i64 (-1), .int .i64 0, .int .i64 0, .int .i64 0] 27))
  have c0 := HC4.out.c 0 rfl
  have c1 := HC4.out.c 1 rfl
  have cz := HC4.out.2.2
  go_wp2_with fail
  have HL4 := Lib.hid (HL3.out.step (al w3 (.cells #[.int .i64 (-1), .int .i64 0, .int .i64 0, .int .i64 0] 27)))
  have HV4 := Lib.hid (HV3.out.step (al w3 (.cells #[.int .i64 (-1), .int .i64 0, .int .i64 0, .int .i64 0] 27)))
  have HKB := Lib.hid (show k ≠ w3.heap.size from fun e => by have := HC3.out.2.2; omega)
  have HBB := Lib.hid HW3.out.size
  have HAL := Lib.hid (al w3 (.cells #[.int .i64 (-1), .int .i64 0, .int .i64 0, .int .i64 0] 27))
  clear c0 c1 cz HC4 HL4 HV4 HW4
  generalize w3.alloc (.cells #[.int .i64 (-1), .int .i64 0, .int .i64 0, .int .i64 0] 27) = wb at *
  go_loopw [35] (fun iv wr => ∃ i : Nat, i ≤ L.length ∧ iv = .int .i64 i ∧ ∃ l : Od, Hid (Cs wr w3.heap.size #[.int .i64 l.a, .int .i64 l.b, .int .i64 l.c, .int .i64 l.d]) ∧ Hid (wk l0 L = wk l (L.drop i)) ∧ Hid (Below w3.heap.size w3 wr)) (fun iv _ => L.length - (intOf iv).toNat)
  case atStart => exact ⟨0, by omega, rfl, l0, Lib.hid HO4.out, Lib.hid (by rw [List.drop_zero]), Lib.hid HAL.out⟩
  case round =>
    obtain ⟨i, hi, rfl, l, HO, HN, HB⟩ := hrel
    clear HO4 HAL
    have HWr := Lib.hid (HW3.out.trans (HB.out.mono HBB.out))
    by_cases hlt : i < L.length
    · obtain ⟨a1, c1, hv1, -, -, hcs1⟩ := HL3.out.step HB.out
      obtain ⟨rfl, rfl⟩ : sa = a1 ∧ sc = c1 := by simpa using hv1
      obtain ⟨b1, o1, rfl, hx1⟩ := hcs1 (by intro e; rw [e] at hlt; simp at hlt)
      obtain ⟨y0, y1, y2, y3⟩ := hx1 i _ (od_get hlt)
      have yz : b1 < wr.heap.size := World.block_lt_of_cell? _ _ y0
      have t1 : (i : Int) < (L.length : Int) := by omega
      have HG := Lib.hid (show ∀ y, wk l (L.drop i) = y → isV V L = (y && (V == vof L)) from fun y hy => by rw [HE.out, HN.out, hy])
      have HG1 := Lib.hid (fun (h : okR (L.getD i zO) = false) => wk_no (l := l) hlt h)
      have HG2 := Lib.hid (fun (h : okR (L.getD i zO) = true) (hs : stB (L.getD i zO) = true) => wk_st (l := l) hlt h hs)
      have HG3 := Lib.hid (fun (hs : stB (L.getD i zO) = false) (hb : (!decide ((L.getD i zO).a ≤ l.a) && !decide ((L.getD i zO).b < l.b)) = false) => wk_bad (l := l) hlt hs hb)
      have HG4 := Lib.hid (fun (h : okR (L.getD i zO) = true) (hs : stB (L.getD i zO) = false) (hb : (!decide ((L.getD i zO).a ≤ l.a) && !decide ((L.getD i zO).b < l.b)) = true) => wk_go (l := l) hlt h hs hb)
      clear hcs1 hx1 hv1
      generalize L.getD i zO = x at *
      have HX := Lib.hid (Cs.new wr wr.heap.size #[.int .i64 x.a, .int .i64 x.b, .int .i64 x.c, .int .i64 x.d] 27 rfl)
      have HA1 := Lib.hid (al wr (.cells #[.int .i64 x.a, .int .i64 x.b, .int .i64 x.c, .int .i64 x.d] 27))
      have HO1 := Lib.hid (HO.out.step HA1.out)
      have HW1 := Lib.hid (HWr.out.trans (HA1.out.mono HWr.out.size))
      have HB1 := Lib.hid (HB.out.trans (HA1.out.mono HB.out.size))
      have hne : ¬ w3.heap.size = wr.heap.size := by have := HO.out.2.2; omega
      have HNE := Lib.hid hne
      clear hne HO
      have x0 := HX.out.c 0 rfl
      have x1 := HX.out.c 1 rfl
      have x2 := HX.out.c 2 rfl
      have x3 := HX.out.c 3 rfl
      have xz := HX.out.2.2
      cases ra : inr x.a (-1) 1000000000
      · have HF := Lib.hid (HG.out _ (HG1.out (by unfold okR; rw [ra]; rfl)))
        go_wp2_with fail
        refine (within_any _ _ _ _).mono ?_
        rintro e y1 ⟨rfl, b⟩
        rw [ra]
        have HWx := Lib.hid (keep2 b HW1.out)
        clear b
        go_wp2
        exact bodyPost_ret (v := .bool false) (by simp [results, Try.results52, go_sem]) rfl ⟨by rw [HF.out]; rfl, HWx.out⟩
      go_wp2_with fail
      refine (within_any _ _ _ _).mono ?_
      rintro e v1 ⟨rfl, b⟩
      rw [ra]
      have HW2 := Lib.hid (keep2 b HW1.out)
      have HX2 := Lib.hid (HX.out.step b)
      have HO2 := Lib.hid (HO1.out.step b)
      have HB2 := Lib.hid (HB1.out.trans (b.mono HB1.out.size))
      clear b x0 x1 x2 x3 xz HX HO1 HB1 HW1
      have x0 := HX2.out.c 0 rfl
      have x1 := HX2.out.c 1 rfl
      have x2 := HX2.out.c 2 rfl
      have x3 := HX2.out.c 3 rfl
      have xz := HX2.out.2.2
      cases rb : inr x.b 0 1000000000
      · have HF := Lib.hid (HG.out _ (HG1.out (by unfold okR; rw [ra, rb]; rfl)))
        go_wp2_with fail
        refine (within_any _ _ _ _).mono ?_
        rintro e y1 ⟨rfl, b⟩
        rw [rb]
        have HWx := Lib.hid (keep2 b HW2.out)
        clear b
        go_wp2
        exact bodyPost_ret (v := .bool false) (by simp [results, Try.results52, go_sem]) rfl ⟨by rw [HF.out]; rfl, HWx.out⟩
      go_wp2_with fail
      refine (within_any _ _ _ _).mono ?_
      rintro e v2 ⟨rfl, b⟩
      rw [rb]
      have HW3 := Lib.hid (keep2 b HW2.out)
      have HX3 := Lib.hid (HX2.out.step b)
      have HO3 := Lib.hid (HO2.out.step b)
      have HB3 := Lib.hid (HB2.out.trans (b.mono HB2.out.size))
      clear b x0 x1 x2 x3 xz HX2 HO2 HB2 HW2
      have x0 := HX3.out.c 0 rfl
      have x1 := HX3.out.c 1 rfl
      have x2 := HX3.out.c 2 rfl
      have x3 := HX3.out.c 3 rfl
      have xz := HX3.out.2.2
      cases rd : inr x.d 0 15
      · have HF := Lib.hid (HG.out _ (HG1.out (by unfold okR; rw [ra, rb, rd]; rfl)))
        go_wp2_with fail
        refine (within_any _ _ _ _).mono ?_
        rintro e y1 ⟨rfl, b⟩
        rw [rd]
        have HWx := Lib.hid (keep2 b HW3.out)
        clear b
        go_wp2
        exact bodyPost_ret (v := .bool false) (by simp [results, Try.results52, go_sem]) rfl ⟨by rw [HF.out]; rfl, HWx.out⟩
      go_wp2_with fail
      refine (within_any _ _ _ _).mono ?_
      rintro e v3 ⟨rfl, b⟩
      rw [rd]
      have HW4 := Lib.hid (keep2 b HW3.out)
      have HX4 := Lib.hid (HX3.out.step b)
      have HO4 := Lib.hid (HO3.out.step b)
      have HB4 := Lib.hid (HB3.out.trans (b.mono HB3.out.size))
      clear b x0 x1 x2 x3 xz HX3 HO3 HB3 HW3
      have x0 := HX4.out.c 0 rfl
      have x1 := HX4.out.c 1 rfl
      have x2 := HX4.out.c 2 rfl
      have x3 := HX4.out.c 3 rfl
      have xz := HX4.out.2.2
      by_cases hc : x.c < -1
      · have HF := Lib.hid (HG.out _ (HG1.out (by unfold okR; rw [ra, rb, rd, decide_eq_true hc]; rfl)))
        have HWx := HW4
        go_wp2
        exact bodyPost_ret (v := .bool false) (by simp [results, Try.results52, go_sem]) rfl ⟨by rw [HF.out]; rfl, HWx.out⟩
      have HOK := Lib.hid (show okR x = true by unfold okR; rw [ra, rb, rd, decide_eq_false hc]; rfl)
      cases hs : stB x with
      | true =>
        have HN2 := Lib.hid (HN.out.trans (HG2.out HOK.out hs))
        go_wp2_with fail
        refine (settled_any x _).mono ?_
        rintro e v4 ⟨rfl, b⟩
        rw [hs]
        have HO5 := Lib.hid (HO4.out.step b)
        have HB5 := Lib.hid (HB4.out.trans (b.mono HB4.out.size))
        clear b x0 x1 x2 x3 xz
        go_wp2
        go_roundw
        case rel => exact ⟨i + 1, hlt, by go_num, l, HO5, HN2, HB5⟩
        case measure => simp [intOf]; omega
      | false =>
        go_wp2_with fail
        refine (settled_any x _).mono ?_
        rintro e v4 ⟨rfl, b⟩
        rw [hs]
        have HW5 := Lib.hid (keep2 b HW4.out)
        have HX5 := Lib.hid (HX4.out.step b)
        have HO5 := Lib.hid (HO4.out.step b)
        have HB5 := Lib.hid (HB4.out.trans (b.mono HB4.out.size))
        clear b x0 x1 x2 x3 xz HX4 HO4 HB4 HW4
        have x0 := HX5.out.c 0 rfl
        have x1 := HX5.out.c 1 rfl
        have x2 := HX5.out.c 2 rfl
        have x3 := HX5.out.c 3 rfl
        have xz := HX5.out.2.2
        have l0' := HO5.out.c 0 rfl
        have l1' := HO5.out.c 1 rfl
        have l2' := HO5.out.c 2 rfl
        have l3' := HO5.out.c 3 rfl
        have lz := HO5.out.2.2
        have f0 := HO5.out.f 0 (by simp)
        have f1 := HO5.out.f 1 (by simp)
        have f2 := HO5.out.f 2 (by simp)
        have f3 := HO5.out.f 3 (by simp)
        by_cases d1 : x.a ≤ l.a
        · have HF := Lib.hid (HG.out _ (HG3.out hs (by rw [decide_eq_true d1]; rfl)))
          have HWx := HW5
          go_wp2
          exact bodyPost_ret (v := .bool false) (by simp [results, Try.results52, go_sem]) rfl ⟨by rw [HF.out]; rfl, HWx.out⟩
        by_cases d2 : x.b < l.b
        · have HF := Lib.hid (HG.out _ (HG3.out hs (by rw [decide_eq_true d2]; simp)))
          have HWx := HW5
          go_wp2
          exact bodyPost_ret (v := .bool false) (by simp [results, Try.results52, go_sem]) rfl ⟨by rw [HF.out]; rfl, HWx.out⟩
        have HN2 := Lib.hid (HN.out.trans (HG4.out HOK.out hs (by rw [decide_eq_false d1, decide_eq_false d2]; rfl)))
        go_wp2
        go_roundw
        case rel => exact ⟨i + 1, hlt, by go_num, x, Lib.hid (Cs.set (Cs.set (Cs.set (Cs.set HO5.out 0 (by simp) (.int .i64 x.a) rfl) 1 (by simp) (.int .i64 x.b) rfl) 2 (by simp) (.int .i64 x.c) rfl) 3 (by simp) (.int .i64 x.d) rfl), HN2, Lib.hid ((((HB5.out.setCell (p := ⟨w3.heap.size, 0, none⟩) (Nat.le_refl _) _).setCell (p := ⟨w3.heap.size, 1, none⟩) (Nat.le_refl _) _).setCell (p := ⟨w3.heap.size, 2, none⟩) (Nat.le_refl _) _).setCell (p := ⟨w3.heap.size, 3, none⟩) (Nat.le_refl _) _)⟩
        case measure => simp [intOf]; omega
    · obtain rfl : i = L.length := by omega
      have HF := Lib.hid (show isV V L = (V == vof L) by rw [HE.out, HN.out, wk_end]; rfl)
      have HLr := Lib.hid (HL3.out.step HB.out)
      have HVr := Lib.hid (HV3.out.step HB.out)
      have HCr := Lib.hid (HC3.out.step HB.out)
      have c0 := HCr.out.c 0 rfl
      have c1 := HCr.out.c 1 rfl
      have cz := HCr.out.2.2
      clear HO HN HE
      have H9 := Lib.hid h9
      go_wp2_with fail
      go_region_law (first | (go_simp; go_at_call 67; refine (valuesOf_any (.slice sa L.length sc) L _ (HLr.out.step (by first | exact Below.refl _ _ | exact below_drew _ _)) H9.out).mono ?_; rintro e w5 ⟨u, rfl, hu, b5⟩; have HW5 := Lib.hid (show Below wr.heap.size wr w5 from by first | exact b5 | exact (below_drew _ _).trans b5); have HU := Lib.hid (ints_of_row hu); have m0 : w5.cell? ⟨k, 0, none⟩ = some (.slice va V.length vc) := (HCr.out.step HW5.out).c 0 rfl; have m1 : w5.cell? ⟨k, 1, none⟩ = some (.slice sa L.length sc) := (HCr.out.step HW5.out).c 1 rfl; have mz : k < w5.heap.size := (HCr.out.step HW5.out).2.2; clear hu b5) | (go_simp; go_at_call 68; refine (equal_own (.slice va V.length vc) _ V (vof L) _ ((HVr.out.step HW5.out).step (by first | exact Below.refl _ _ | exact below_drew _ _)) (HU.out.step (by first | exact Below.refl _ _ | exact below_drew _ _)) H8.out (by have := vof_len L; have := H9.out; omega)).mono ?_; rintro e w6 ⟨rfl, b6⟩; have HW6 := Lib.hid (show Below wr.heap.size wr w6 from by first | exact keep2 b6 HW5.out | exact keep2 ((below_drew _ _).trans b6) HW5.out); clear b6))
      all_goals go_wp2
      all_goals exact bodyPost_ret (v := .bool (V == vof L)) (by simp [results, Try.results52, go_sem]) rfl ⟨by rw [HF.out], keep2 HW6.out HWr.out⟩
open Go.RowKit

/-- Of the older blocks, one alone may have changed. -/
structure Chg (k : Nat) (w w' : World) : Prop where
  os : w'.os = w.os
  tape : w'.tape = w.tape
  output : w'.output = w.output
  size : w.heap.size ≤ w'.heap.size
  block : ∀ j, j < w.heap.size → j ≠ k → w'.heap[j]? = w.heap[j]?
theorem Chg.of {k : Nat} {w w' : World} (h : Below w.heap.size w w') : Chg k w w' := ⟨h.os, h.tape, h.output, h.size, fun j hj _ => h.block j hj⟩
theorem Chg.trans {k : Nat} {w w1 w2 : World} (h1 : Chg k w w1) (h2 : Chg k w1 w2) : Chg k w w2 :=
  ⟨h2.os.trans h1.os, h2.tape.trans h1.tape, h2.output.trans h1.output, Nat.le_trans h1.size h2.size, fun j hj hk => (h2.block j (Nat.lt_of_lt_of_le hj h1.size) hk).trans (h1.block j hj hk)⟩
theorem Chg.set {k : Nat} {w w1 : World} (h : Chg k w w1) (o : Nat) (v : Value) : Chg k w (w1.setCell ⟨k, o, none⟩ v) :=
  ⟨h.os, h.tape, h.output, by simpa using h.size, fun j hj hk => (Below.heap_setCell w1 ⟨k, o, none⟩ v j hk).trans (h.block j hj hk)⟩
theorem Chg.below {k B : Nat} {w w' : World} (h : Chg k w w') (hk : B ≤ k) (hB : B ≤ w.heap.size) : Below B w w' :=
  ⟨h.os, h.tape, h.output, h.size, fun j hj => h.block j (Nat.lt_of_lt_of_le hj hB) (by omega)⟩
theorem Chg.cs {k m : Nat} {w w' : World} {vs : Array Value} (h : Chg k w w') (hm : m ≠ k) (hc : Cs w m vs) : Cs w' m vs :=
  ⟨fun j hj => (World.cell?_of_block (a := ⟨m, j, none⟩) (h.block m hc.2.2 hm)).trans (hc.1 j hj), fun j hj => (World.frozen?_of_block (a := ⟨m, j, none⟩) (h.block m hc.2.2 hm)).trans (hc.2.1 j hj), Nat.lt_of_lt_of_le hc.2.2 h.size⟩
theorem Chg.ods {k n c : Nat} {a : Option Addr} {w w' : World} {L : List Od} (h : Chg k w w') (hne : ∀ g o, a = some ⟨g, o, none⟩ → g ≠ k) (ho : OdsAt w (.slice a n c) L) : OdsAt w' (.slice a n c) L := by
  obtain ⟨a2, cap, hv, h1, hm, hc⟩ := ho
  refine ⟨a2, cap, hv, h1, hm, fun hl => ?_⟩
  obtain ⟨b1, off, ha, hx⟩ := hc hl
  have hg : a = a2 := by simp at hv; exact hv.1
  have hn := hne b1 off (hg.trans ha)
  refine ⟨b1, off, ha, fun i x hi => ?_⟩
  obtain ⟨q0, q1, q2, q3⟩ := hx i x hi
  have hk : ∀ o, w'.cell? ⟨b1, o, none⟩ = w.cell? ⟨b1, o, none⟩ := fun o => World.cell?_of_block (a := ⟨b1, o, none⟩) (h.block b1 (World.block_lt_of_cell? _ _ q0) hn)
  exact ⟨(hk _).trans q0, (hk _).trans q1, (hk _).trans q2, (hk _).trans q3⟩
theorem Chg.ints {k n c : Nat} {a : Option Addr} {w w' : World} {L : List Int} (h : Chg k w w') (hne : ∀ g o, a = some ⟨g, o, none⟩ → g ≠ k) (ho : IntsAt w (.slice a n c) L) : IntsAt w' (.slice a n c) L := by
  obtain ⟨a2, cap, hv, hm, hc⟩ := ho
  refine ⟨a2, cap, hv, hm, fun hl => ?_⟩
  obtain ⟨b1, off, ha, hx⟩ := hc hl
  have hg : a = a2 := by simp at hv; exact hv.1
  have hn := hne b1 off (hg.trans ha)
  refine ⟨b1, off, ha, fun i x hi => ?_⟩
  have q := hx i x hi
  exact (World.cell?_of_block (a := ⟨b1, off + i, none⟩) (h.block b1 (World.block_lt_of_cell? _ _ q) hn)).trans q
theorem row_adr {w : World} {base e s n c : Nat} {a : Option Addr} {m : Nat} {xs : List Value} (h : w.ownsRow base e s (.slice a n c) m xs) : ∀ g o, a = some ⟨g, o, none⟩ → base ≤ g := by
  intro g o ha
  subst ha
  rcases h.2 with ⟨e, -⟩ | ⟨g', cp, cur, e, h1, -⟩
  · cases e
  · cases e; exact h1
/-- The belief behind 'k' has records. -/
def Bel (k B : Nat) (w : World) (v : Value) (L : List Od) : Prop :=
  ∃ (ua : Option Addr) (uc : Nat), Cs w k #[.slice ua (vof L).length uc, v] ∧ IntsAt w (.slice ua (vof L).length uc) (vof L) ∧ ∀ g o, ua = some ⟨g, o, none⟩ → B ≤ g
set_option maxRecDepth 100000 in
set_option maxHeartbeats 8000000 in
theorem become_any (k : Nat) (v1 v2 : Value) (sa : Option Addr) (sc : Nat) (L : List Od) (w : World) (hC : Cs w k #[v1, v2]) (h : OdsAt w (.slice sa L.length sc) L) (h9 : L.length ≤ 100000) :
    Calls Try.prog 49 #[.pointer (some ⟨k, 0, none⟩), .slice sa L.length sc] w fun e w' => e = .returned (.tuple #[]) ∧ Bel k w.heap.size w' (.slice sa L.length sc) L ∧ Chg k w w' := by
  have HL := Lib.hid h
  have HC := Lib.hid hC
  have c0 := hC.c 0 rfl
  have c1 := hC.c 1 rfl
  have cz := hC.2.2
  clear hC h
  go_enter Try.func49, Try.ntmps49
  go_wp2_with fail
  refine (valuesOf_any (.slice sa L.length sc) L _ HL.out h9).mono ?_
  rintro e w5 ⟨u, rfl, hu, b5⟩
  obtain ⟨ua, uc, rfl⟩ := row_slice hu
  have HA := Lib.hid (row_adr hu)
  have HU := Lib.hid (ints_of_row hu)
  have HC5 := Lib.hid (HC.out.step b5)
  have HG := Lib.hid (Chg.of (k := k) b5)
  have HZ := Lib.hid (HC.out.2.2)
  clear hu b5 c0 c1 cz HC
  have c0 := HC5.out.c 0 rfl
  have c1 := HC5.out.c 1 rfl
  have f0 := HC5.out.f 0 (by simp)
  have f1 := HC5.out.f 1 (by simp)
  have cz := HC5.out.2.2
  go_wp2
  have hne : ∀ g o, ua = some ⟨g, o, none⟩ → g ≠ k := fun g o e h => by have := HA.out g o e; have := HZ.out; omega
  refine bodyPost_end (v := .tuple #[]) (by simp [results, Try.results49, go_sem]) rfl ⟨rfl, ⟨ua, uc, Cs.set (Cs.set HC5.out 1 (by simp) (.slice sa L.length sc) rfl) 0 (by simp) (.slice ua (vof L).length uc) rfl, (((Chg.of (Below.refl _ w5)).set 1 _).set 0 _).ints hne HU.out, HA.out⟩, (HG.out.set 1 _).set 0 _⟩
open Go.RowKit

/-- An order. -/
def isO (o : Od) : Bool := inr o.a 0 1000000000 && inr o.b 0 1000000000 && inr o.c 0 1000000000 && inr o.d 0 15
/-- What sending answers. -/
def sdE (L : List Od) (o : Od) : Int :=
  if (!isO o || L.any fun x => decide (o.a ≤ x.a)) = true then 1
  else if (L.any fun x => decide (o.b < x.b)) = true then 23
  else if (decide ((flt L).length = 8) || decide (L.length = 20)) = true then 2
  else 0
/-- What a change leaves: records, if it says so. -/
def Done (k : Nat) (w : World) (E : Int) (M : List Od) (e : Ending) (w' : World) : Prop :=
  e = .returned (.int .i64 E) ∧ Chg k w w' ∧ (E = 0 → ∃ (fa : Option Addr) (fc : Nat), Bel k w.heap.size w' (.slice fa M.length fc) M ∧ OdsAt w' (.slice fa M.length fc) M ∧ ∀ g o, fa = some ⟨g, o, none⟩ → w.heap.size ≤ g)
theorem step_app_od {ops : Array Oper} {op : Oper} {a : Act} {W : World} {K : Act → World → Prop} {Q : Exit → Act → World → Prop} {E : Prop} (hgd : op.guard = none) (s x : Operand)
    (ho : op.op = .call { callee := .builtin .append, args := #[s, x], argTypes := #[23, 23] }) (B N : Nat) (L : List Od) (o : Od) (u : Value) (hs : a.eval s = u) (hx : a.eval x = .slice (some ⟨N, 0, none⟩) 1 1)
    (hrow : W.ownsRow B 27 4 u L.length (ocs L)) (hcs : Cs W N #[.int .i64 o.a, .int .i64 o.b, .int .i64 o.c, .int .i64 o.d]) (h9 : L.length ≤ 1000) (hB : B ≤ W.heap.size)
    (h : ∀ v' w5, w5.ownsRow B 27 4 v' (L ++ [o]).length (ocs (L ++ [o])) → Below B W w5 → K (a.put op.dst v') w5) :
    if Region.wanted op (yielded ops a.tmps) = true then Oper.wp Try.prog op a W K Q else E := by
  have hw : Region.wanted op (yielded ops a.tmps) = true := by simp [Region.wanted, hgd]
  obtain ⟨i0, hi, hz0, hz1, hz2⟩ := info_parts od_info
  obtain ⟨v', w5, hr, ho5, hg5, -⟩ := run_append_own (P := Try.prog) (w := W) B 23 op.type 27 i0 _ 4 32 Try.underlying23 hi hz0 hz1 hz2 rfl (by decide) u L.length (ocs L) hrow ⟨N, 0, none⟩ 1 1 [.int .i64 o.a, .int .i64 o.b, .int .i64 o.c, .int .i64 o.d] rfl
    (fun j v hj => by
      rw [Go.WideShapes.add_plain, Nat.zero_add]
      exact hcs.c j (by rw [← Array.getElem?_toList]; exact hj)) (by simp [Value.oneCell']) (by unfold maxLen; omega) (by omega) hB
  rw [if_pos hw]
  unfold Oper.wp execOp
  simp only [ho, resolve, invoke, builtin, Sem.run_bind, Sem.run_pure, Result.andThen_ok, List.map_toArray, List.map_cons, List.map_nil, hs, hx, hr]
  refine h v' w5 ?_ ?_
  · rw [List.length_append, ocs_app, ocs_one]; exact ho5
  · refine (Below.refl B W).grown hg5 hB fun g e => ?_
    rcases hrow.2 with ⟨rfl, -⟩ | ⟨g', cap, cur, rfl, h1, -⟩
    · cases e
    · cases e; exact h1
theorem row_base {w : World} {base b2 e s : Nat} {v : Value} {n : Nat} {xs : List Value} (h : w.ownsRow base e s v n xs) (hb : b2 ≤ base) : w.ownsRow b2 e s v n xs := by
  refine ⟨h.1, ?_⟩
  rcases h.2 with h0 | ⟨g, cap, cur, h1, h2, h3, h4⟩
  · exact .inl h0
  · exact .inr ⟨g, cap, cur, h1, Nat.le_trans hb h2, h3, h4⟩
set_option maxRecDepth 100000 in
set_option maxHeartbeats 8000000 in
theorem become_n (k : Nat) (v1 v2 : Value) (sa : Option Addr) (sc n : Nat) (L : List Od) (hn : n = L.length) (w : World) (hC : Cs w k #[v1, v2]) (h : OdsAt w (.slice sa L.length sc) L) (h9 : L.length ≤ 100000) :
    Calls Try.prog 49 #[.pointer (some ⟨k, 0, none⟩), .slice sa n sc] w fun e w' => e = .returned (.tuple #[]) ∧ Bel k w.heap.size w' (.slice sa L.length sc) L ∧ Chg k w w' := by
  subst hn
  exact become_any k v1 v2 sa sc L w hC h h9
theorem Bel.base {k B B2 : Nat} {w : World} {v : Value} {L : List Od} (h : Bel k B w v L) (hb : B2 ≤ B) : Bel k B2 w v L := by
  obtain ⟨ua, uc, h1, h2, h3⟩ := h
  exact ⟨ua, uc, h1, h2, fun g o e => Nat.le_trans hb (h3 g o e)⟩
theorem done_of {k : Nat} {w wq w5 w6 : World} {M : List Od} {fa : Option Addr} {fc : Nat} {E : Int} (hb : Below w.heap.size w wq) (hk : k < w.heap.size) (h5 : Below wq.heap.size wq w5)
    (ho : w5.ownsRow wq.heap.size 27 4 (.slice fa M.length fc) M.length (ocs M)) (hbel : Bel k w5.heap.size w6 (.slice fa M.length fc) M) (hc : Chg k w5 w6) (hE : E = 0) : Done k w E M (.returned (.int .i64 0)) w6 := by
  have hs := hb.size
  have ha := row_adr ho
  refine ⟨by rw [hE], (Chg.of (keep2 h5 hb)).trans hc, fun _ => ⟨fa, fc, hbel.base (Nat.le_trans hs h5.size), hc.ods (fun g o e h => by have := ha g o e; omega) (ods_of_row rfl ho), fun g o e => Nat.le_trans hs (ha g o e)⟩⟩
set_option maxRecDepth 100000 in
set_option maxHeartbeats 8000000 in
theorem send_any (k : Nat) (v1 : Value) (sa : Option Addr) (sc : Nat) (L : List Od) (o : Od) (w : World) (hC : Cs w k #[v1, .slice sa L.length sc]) (h : OdsAt w (.slice sa L.length sc) L) (h9 : L.length ≤ 1000) :
    Calls Try.prog 39 #[.pointer (some ⟨k, 0, none⟩), .agg #[.int .i64 o.a, .int .i64 o.b, .int .i64 o.c, .int .i64 o.d]] w (Done k w (sdE L o) (L ++ [o])) := by
  have HO0 := Lib.hid (Cs.new w w.heap.size #[.int .i64 o.a, .int .i64 o.b, .int .i64 o.c, .int .i64 o.d] 27 rfl)
  have HB0 := Lib.hid (al w (.cells #[.int .i64 o.a, .int .i64 o.b, .int .i64 o.c, .int .i64 o.d] 27))
  have HL0 := Lib.hid (h.step HB0.out)
  have HC0 := Lib.hid (hC.step HB0.out)
  have H9 := Lib.hid h9
  have HX := Lib.hid hC.2.2
  clear hC h h9
  have o0 := HO0.out.c 0 rfl
  have o1 := HO0.out.c 1 rfl
  have o2 := HO0.out.c 2 rfl
  have o3 := HO0.out.c 3 rfl
  have oz := HO0.out.2.2
  have c0 := HC0.out.c 0 rfl
  have c1 := HC0.out.c 1 rfl
  have cz := HC0.out.2.2
  go_enter Try.func39, Try.ntmps39
  cases ra : inr o.a 0 1000000000
  · go_wp2_with fail
    refine (within_any _ _ _ _).mono ?_
    rintro e y0 ⟨rfl, b⟩
    rw [ra]
    have HO1 := Lib.hid (HO0.out.step b)
    have HL1 := Lib.hid (HL0.out.step b)
    have HC1 := Lib.hid (HC0.out.step b)
    have HB1 := Lib.hid (keep2 b HB0.out)
    clear b o0 o1 o2 o3 oz c0 c1 cz HO0 HL0 HC0 HB0
    have o0 := HO1.out.c 0 rfl
    have o1 := HO1.out.c 1 rfl
    have o2 := HO1.out.c 2 rfl
    have o3 := HO1.out.c 3 rfl
    have oz := HO1.out.2.2
    have c0 := HC1.out.c 0 rfl
    have c1 := HC1.out.c 1 rfl
    have cz := HC1.out.2.2
    have HE := Lib.hid (show sdE L o = 1 from by unfold sdE isO; rw [ra]; simp)
    go_wp2
    exact bodyPost_ret (v := .int .i64 1) (by simp [results, Try.results39, go_sem]) rfl ⟨by rw [HE.out], Chg.of HB1.out, fun e => by rw [HE.out] at e; cases e⟩
  go_wp2_with fail
  refine (within_any _ _ _ _).mono ?_
  rintro e y0 ⟨rfl, b⟩
  rw [ra]
  have HO1 := Lib.hid (HO0.out.step b)
  have HL1 := Lib.hid (HL0.out.step b)
  have HC1 := Lib.hid (HC0.out.step b)
  have HB1 := Lib.hid (keep2 b HB0.out)
  clear b o0 o1 o2 o3 oz c0 c1 cz HO0 HL0 HC0 HB0
  have o0 := HO1.out.c 0 rfl
  have o1 := HO1.out.c 1 rfl
  have o2 := HO1.out.c 2 rfl
  have o3 := HO1.out.c 3 rfl
  have oz := HO1.out.2.2
  have c0 := HC1.out.c 0 rfl
  have c1 := HC1.out.c 1 rfl
  have cz := HC1.out.2.2
  cases rb : inr o.b 0 1000000000
  · go_wp2_with fail
    refine (within_any _ _ _ _).mono ?_
    rintro e y1 ⟨rfl, b⟩
    rw [rb]
    have HO2 := Lib.hid (HO1.out.step b)
    have HL2 := Lib.hid (HL1.out.step b)
    have HC2 := Lib.hid (HC1.out.step b)
    have HB2 := Lib.hid (keep2 b HB1.out)
    clear b o0 o1 o2 o3 oz c0 c1 cz HO1 HL1 HC1 HB1
    have o0 := HO2.out.c 0 rfl
    have o1 := HO2.out.c 1 rfl
    have o2 := HO2.out.c 2 rfl
    have o3 := HO2.out.c 3 rfl
    have oz := HO2.out.2.2
    have c0 := HC2.out.c 0 rfl
    have c1 := HC2.out.c 1 rfl
    have cz := HC2.out.2.2
    have HE := Lib.hid (show sdE L o = 1 from by unfold sdE isO; rw [ra, rb]; simp)
    go_wp2
    exact bodyPost_ret (v := .int .i64 1) (by simp [results, Try.results39, go_sem]) rfl ⟨by rw [HE.out], Chg.of HB2.out, fun e => by rw [HE.out] at e; cases e⟩
  go_wp2_with fail
  refine (within_any _ _ _ _).mono ?_
  rintro e y1 ⟨rfl, b⟩
  rw [rb]
  have HO2 := Lib.hid (HO1.out.step b)
  have HL2 := Lib.hid (HL1.out.step b)
  have HC2 := Lib.hid (HC1.out.step b)
  have HB2 := Lib.hid (keep2 b HB1.out)
  clear b o0 o1 o2 o3 oz c0 c1 cz HO1 HL1 HC1 HB1
  have o0 := HO2.out.c 0 rfl
  have o1 := HO2.out.c 1 rfl
  have o2 := HO2.out.c 2 rfl
  have o3 := HO2.out.c 3 rfl
  have oz := HO2.out.2.2
  have c0 := HC2.out.c 0 rfl
  have c1 := HC2.out.c 1 rfl
  have cz := HC2.out.2.2
  cases rc : inr o.c 0 1000000000
  · go_wp2_with fail
    refine (within_any _ _ _ _).mono ?_
    rintro e y2 ⟨rfl, b⟩
    rw [rc]
    have HO3 := Lib.hid (HO2.out.step b)
    have HL3 := Lib.hid (HL2.out.step b)
    have HC3 := Lib.hid (HC2.out.step b)
    have HB3 := Lib.hid (keep2 b HB2.out)
    clear b o0 o1 o2 o3 oz c0 c1 cz HO2 HL2 HC2 HB2
    have o0 := HO3.out.c 0 rfl
    have o1 := HO3.out.c 1 rfl
    have o2 := HO3.out.c 2 rfl
    have o3 := HO3.out.c 3 rfl
    have oz := HO3.out.2.2
    have c0 := HC3.out.c 0 rfl
    have c1 := HC3.out.c 1 rfl
    have cz := HC3.out.2.2
    have HE := Lib.hid (show sdE L o = 1 from by unfold sdE isO; rw [ra, rb, rc]; simp)
    go_wp2
    exact bodyPost_ret (v := .int .i64 1) (by simp [results, Try.results39, go_sem]) rfl ⟨by rw [HE.out], Chg.of HB3.out, fun e => by rw [HE.out] at e; cases e⟩
  go_wp2_with fail
  refine (within_any _ _ _ _).mono ?_
  rintro e y2 ⟨rfl, b⟩
  rw [rc]
  have HO3 := Lib.hid (HO2.out.step b)
  have HL3 := Lib.hid (HL2.out.step b)
  have HC3 := Lib.hid (HC2.out.step b)
  have HB3 := Lib.hid (keep2 b HB2.out)
  clear b o0 o1 o2 o3 oz c0 c1 cz HO2 HL2 HC2 HB2
  have o0 := HO3.out.c 0 rfl
  have o1 := HO3.out.c 1 rfl
  have o2 := HO3.out.c 2 rfl
  have o3 := HO3.out.c 3 rfl
  have oz := HO3.out.2.2
  have c0 := HC3.out.c 0 rfl
  have c1 := HC3.out.c 1 rfl
  have cz := HC3.out.2.2
  cases rd : inr o.d 0 15
  · go_wp2_with fail
    refine (within_any _ _ _ _).mono ?_
    rintro e y3 ⟨rfl, b⟩
    rw [rd]
    have HO4 := Lib.hid (HO3.out.step b)
    have HL4 := Lib.hid (HL3.out.step b)
    have HC4 := Lib.hid (HC3.out.step b)
    have HB4 := Lib.hid (keep2 b HB3.out)
    clear b o0 o1 o2 o3 oz c0 c1 cz HO3 HL3 HC3 HB3
    have o0 := HO4.out.c 0 rfl
    have o1 := HO4.out.c 1 rfl
    have o2 := HO4.out.c 2 rfl
    have o3 := HO4.out.c 3 rfl
    have oz := HO4.out.2.2
    have c0 := HC4.out.c 0 rfl
    have c1 := HC4.out.c 1 rfl
    have cz := HC4.out.2.2
    have HE := Lib.hid (show sdE L o = 1 from by unfold sdE isO; rw [ra, rb, rc, rd]; simp)
    go_wp2
    exact bodyPost_ret (v := .int .i64 1) (by simp [results, Try.results39, go_sem]) rfl ⟨by rw [HE.out], Chg.of HB4.out, fun e => by rw [HE.out] at e; cases e⟩
  go_wp2_with fail
  refine (within_any _ _ _ _).mono ?_
  rintro e y3 ⟨rfl, b⟩
  rw [rd]
  have HO4 := Lib.hid (HO3.out.step b)
  have HL4 := Lib.hid (HL3.out.step b)
  have HC4 := Lib.hid (HC3.out.step b)
  have HB4 := Lib.hid (keep2 b HB3.out)
  clear b o0 o1 o2 o3 oz c0 c1 cz HO3 HL3 HC3 HB3
  have o0 := HO4.out.c 0 rfl
  have o1 := HO4.out.c 1 rfl
  have o2 := HO4.out.c 2 rfl
  have o3 := HO4.out.c 3 rfl
  have oz := HO4.out.2.2
  have c0 := HC4.out.c 0 rfl
  have c1 := HC4.out.c 1 rfl
  have cz := HC4.out.2.2
  have HIO := Lib.hid (show isO o = true by unfold isO; rw [ra, rb, rc, rd]; rfl)
  clear ra rb rc rd
  cases q1 : L.any (fun x => decide (o.a ≤ x.a))
  rotate_left
  · go_wp2_with fail
    refine (contains_f _ L 54 #[.pointer (some ⟨w.heap.size, 0, none⟩)] _ _ HL4.out (send1_fits o w.heap.size _ HO4.out) eg54).mono ?_
    rintro e y4 ⟨rfl, b⟩
    rw [q1]
    have HO5 := Lib.hid (HO4.out.step b)
    have HL5 := Lib.hid (HL4.out.step b)
    have HC5 := Lib.hid (HC4.out.step b)
    have HB5 := Lib.hid (keep2 b HB4.out)
    clear b o0 o1 o2 o3 oz c0 c1 cz HO4 HL4 HC4 HB4
    have o0 := HO5.out.c 0 rfl
    have o1 := HO5.out.c 1 rfl
    have o2 := HO5.out.c 2 rfl
    have o3 := HO5.out.c 3 rfl
    have oz := HO5.out.2.2
    have c0 := HC5.out.c 0 rfl
    have c1 := HC5.out.c 1 rfl
    have cz := HC5.out.2.2
    have HE := Lib.hid (show sdE L o = 1 from by unfold sdE; rw [HIO.out, q1]; simp)
    go_wp2
    exact bodyPost_ret (v := .int .i64 1) (by simp [results, Try.results39, go_sem]) rfl ⟨by rw [HE.out], Chg.of HB5.out, fun e => by rw [HE.out] at e; cases e⟩
  go_wp2_with fail
  refine (contains_f _ L 54 #[.pointer (some ⟨w.heap.size, 0, none⟩)] _ _ HL4.out (send1_fits o w.heap.size _ HO4.out) eg54).mono ?_
  rintro e y4 ⟨rfl, b⟩
  rw [q1]
  have HO5 := Lib.hid (HO4.out.step b)
  have HL5 := Lib.hid (HL4.out.step b)
  have HC5 := Lib.hid (HC4.out.step b)
  have HB5 := Lib.hid (keep2 b HB4.out)
  clear b o0 o1 o2 o3 oz c0 c1 cz HO4 HL4 HC4 HB4
  have o0 := HO5.out.c 0 rfl
  have o1 := HO5.out.c 1 rfl
  have o2 := HO5.out.c 2 rfl
  have o3 := HO5.out.c 3 rfl
  have oz := HO5.out.2.2
  have c0 := HC5.out.c 0 rfl
  have c1 := HC5.out.c 1 rfl
  have cz := HC5.out.2.2
  cases q2 : L.any (fun x => decide (o.b < x.b))
  rotate_left
  · go_wp2_with fail
    refine (contains_f _ L 55 #[.pointer (some ⟨w.heap.size, 0, none⟩)] _ _ HL5.out (send2_fits o w.heap.size _ HO5.out) eg55).mono ?_
    rintro e y5 ⟨rfl, b⟩
    rw [q2]
    have HO6 := Lib.hid (HO5.out.step b)
    have HL6 := Lib.hid (HL5.out.step b)
    have HC6 := Lib.hid (HC5.out.step b)
    have HB6 := Lib.hid (keep2 b HB5.out)
    clear b o0 o1 o2 o3 oz c0 c1 cz HO5 HL5 HC5 HB5
    have o0 := HO6.out.c 0 rfl
    have o1 := HO6.out.c 1 rfl
    have o2 := HO6.out.c 2 rfl
    have o3 := HO6.out.c 3 rfl
    have oz := HO6.out.2.2
    have c0 := HC6.out.c 0 rfl
    have c1 := HC6.out.c 1 rfl
    have cz := HC6.out.2.2
    have HE := Lib.hid (show sdE L o = 23 from by unfold sdE; rw [HIO.out, q1, q2]; simp)
    go_wp2
    exact bodyPost_ret (v := .int .i64 23) (by simp [results, Try.results39, go_sem]) rfl ⟨by rw [HE.out], Chg.of HB6.out, fun e => by rw [HE.out] at e; cases e⟩
  go_wp2_with fail
  refine (contains_f _ L 55 #[.pointer (some ⟨w.heap.size, 0, none⟩)] _ _ HL5.out (send2_fits o w.heap.size _ HO5.out) eg55).mono ?_
  rintro e y5 ⟨rfl, b⟩
  rw [q2]
  have HO6 := Lib.hid (HO5.out.step b)
  have HL6 := Lib.hid (HL5.out.step b)
  have HC6 := Lib.hid (HC5.out.step b)
  have HB6 := Lib.hid (keep2 b HB5.out)
  clear b o0 o1 o2 o3 oz c0 c1 cz HO5 HL5 HC5 HB5
  have o0 := HO6.out.c 0 rfl
  have o1 := HO6.out.c 1 rfl
  have o2 := HO6.out.c 2 rfl
  have o3 := HO6.out.c 3 rfl
  have oz := HO6.out.2.2
  have c0 := HC6.out.c 0 rfl
  have c1 := HC6.out.c 1 rfl
  have cz := HC6.out.2.2
  go_wp2_with fail
  refine (flying_any k _ _ L _ HC6.out HL6.out (by have := H9.out; omega)).mono ?_
  rintro e wq ⟨u, rfl, hu, b⟩
  obtain ⟨ua, uc, rfl⟩ := row_slice hu
  clear hu
  have HO7 := Lib.hid (HO6.out.step b)
  have HL7 := Lib.hid (HL6.out.step b)
  have HC7 := Lib.hid (HC6.out.step b)
  have HB7 := Lib.hid (keep2 b HB6.out)
  clear b o0 o1 o2 o3 oz c0 c1 cz HO6 HL6 HC6 HB6
  have o0 := HO7.out.c 0 rfl
  have o1 := HO7.out.c 1 rfl
  have o2 := HO7.out.c 2 rfl
  have o3 := HO7.out.c 3 rfl
  have oz := HO7.out.2.2
  have c0 := HC7.out.c 0 rfl
  have c1 := HC7.out.c 1 rfl
  have cz := HC7.out.2.2
  by_cases q3 : (flt L).length = 8
  · have e1 : ((flt L).length : Int) = 8 := by omega
    have HE := Lib.hid (show sdE L o = 2 from by unfold sdE; rw [HIO.out, q1, q2, decide_eq_true q3]; simp)
    go_wp2
    exact bodyPost_ret (v := .int .i64 2) (by simp [results, Try.results39, go_sem]) rfl ⟨by rw [HE.out], Chg.of HB7.out, fun e => by rw [HE.out] at e; cases e⟩
  have e1 : (((flt L).length : Int) == 8) = false := by simp; omega
  by_cases q4 : L.length = 20
  · have e2 : (L.length : Int) = 20 := by omega
    have HE := Lib.hid (show sdE L o = 2 from by unfold sdE; rw [HIO.out, q1, q2, decide_eq_true q4]; simp)
    go_wp2
    exact bodyPost_ret (v := .int .i64 2) (by simp [results, Try.results39, go_sem]) rfl ⟨by rw [HE.out], Chg.of HB7.out, fun e => by rw [HE.out] at e; cases e⟩
  have e2 : ((L.length : Int) == 20) = false := by simp; omega
  have HE := Lib.hid (show sdE L o = 0 by unfold sdE; rw [HIO.out, q1, q2, decide_eq_false q3, decide_eq_false q4]; rfl)
  clear q1 q2 q3 q4
  have HKL := Lib.hid (show k < w.heap.size from HX.out)
  have HSZ := Lib.hid HB7.out.size
  have HAL := Lib.hid (al wq (.cells #[.int .i64 o.a, .int .i64 o.b, .int .i64 o.c, .int .i64 o.d] 27))
  have d1 : (wq.alloc (.cells #[.int .i64 o.a, .int .i64 o.b, .int .i64 o.c, .int .i64 o.d] 27)).cell? ⟨k, 1, none⟩ = some (.slice sa L.length sc) := (HC7.out.alloc _).c 1 rfl
  go_wp2_with fail
  go_region_law (first | (go_simp; go_at_call 57; refine (od_clone (.slice sa L.length sc) L _ (HL7.out.step (by first | exact Below.refl _ _ | exact below_drew _ _ | exact HAL.out | exact HAL.out.trans (below_drew _ _))) (by have := H9.out; omega)).mono ?_; rintro e w3 ⟨u, rfl, hu, b3⟩; have HW3 := Lib.hid (show Below wq.heap.size wq w3 from by first | exact b3 | exact (below_drew _ _).trans b3 | exact keep2 b3 HAL.out | exact keep2 b3 (HAL.out.trans (below_drew _ _))); have HU := Lib.hid (show w3.ownsRow wq.heap.size 27 4 u L.length (ocs L) from row_base hu (by simp)); (first | (have HN3 := Lib.hid (show Cs w3 wq.heap.size #[.int .i64 o.a, .int .i64 o.b, .int .i64 o.c, .int .i64 o.d] from ((Cs.new wq wq.heap.size #[.int .i64 o.a, .int .i64 o.b, .int .i64 o.c, .int .i64 o.d] 27 rfl).step (below_drew _ _)).step b3)) | skip); have m0 : w3.cell? ⟨w.heap.size, 0, none⟩ = some (.int .i64 o.a) := (HO7.out.step HW3.out).c 0 rfl; have m1 : w3.cell? ⟨w.heap.size, 1, none⟩ = some (.int .i64 o.b) := (HO7.out.step HW3.out).c 1 rfl; have m2 : w3.cell? ⟨w.heap.size, 2, none⟩ = some (.int .i64 o.c) := (HO7.out.step HW3.out).c 2 rfl; have m3 : w3.cell? ⟨w.heap.size, 3, none⟩ = some (.int .i64 o.d) := (HO7.out.step HW3.out).c 3 rfl; have mz : w.heap.size < w3.heap.size := (HO7.out.step HW3.out).2.2; clear hu b3) | ((first | refine step_app_od rfl (.tmp 61) (.tmp 63) rfl wq.heap.size wq.heap.size L o u (by simp [Act.eval]) (by simp [Act.eval]) (by first | exact HU.out | exact row_step HU.out (al _ _) | exact row_step HU.out (below_drew _ _) | exact row_step HU.out ((al _ _).trans (below_drew _ _))) (by first | exact HN3.out | exact HN3.out.step (below_drew _ _)) H9.out (by have := HW3.out.size; simp; omega) ?_ | refine step_app_od rfl (.tmp 61) (.tmp 63) rfl wq.heap.size w3.heap.size L o u (by simp [Act.eval]) (by simp [Act.eval]) (by first | exact HU.out | exact row_step HU.out (al _ _) | exact row_step HU.out (below_drew _ _) | exact row_step HU.out ((al _ _).trans (below_drew _ _))) (by first | exact Cs.new _ _ _ _ rfl | exact (Cs.new _ _ _ _ rfl).step (below_drew _ _)) H9.out (by have := HW3.out.size; simp; omega) ?_); rintro v' w5 ho b5; obtain ⟨fa, fc, rfl⟩ := row_slice ho; have HW5 := Lib.hid (show Below wq.heap.size wq w5 from by first | exact HW3.out.trans b5 | exact (HW3.out.alloc HW3.out.size _).trans b5 | exact (HW3.out.trans (below_drew _ _)).trans b5 | exact ((HW3.out.alloc HW3.out.size _).trans (below_drew _ _)).trans b5); have HO5 := Lib.hid ho; clear ho b5) | (go_simp; go_at_call 49; refine (become_n k v1 _ fa fc _ (L ++ [o]) (by simp) _ (HC7.out.step (by first | exact HW5.out | exact HW5.out.trans (below_drew _ _))) (by first | exact ods_of_row rfl HO5.out | exact (ods_of_row rfl HO5.out).step (below_drew _ _)) (by have := H9.out; simp; omega)).mono ?_; rintro e w6 ⟨rfl, hbel, hchg⟩; have HB6 := Lib.hid hbel; have HC6 := Lib.hid hchg; clear hbel hchg))
  all_goals go_wp2
  all_goals exact bodyPost_ret (v := .int .i64 0) (by simp [results, Try.results39, go_sem]) rfl (done_of HB7.out HKL.out HW5.out HO5.out HB6.out HC6.out HE.out)
