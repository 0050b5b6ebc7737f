/- Beliefs: the orders that fly; 'isValid'. -/
import Derived.Test.YtigpopemllamdaaAg
namespace Go.Proofs.Ytigpopemllamdaa
open Go.RowKit

/-- The orders that fly. -/
def flt (L : List Od) : List Od := L.filter fun x => !stB x
/-- An order or a settled value. -/
def okR (x : Od) : Bool := inr x.a (-1) 1000000000 && inr x.b 0 1000000000 && inr x.d 0 15 && !decide (x.c < -1)
/-- The orders follow one another. -/
def wk : Od → List Od → Bool
  | _, [] => true
  | l, x :: xs => okR x && (if stB x = true then wk l xs else !decide (x.a ≤ l.a) && !decide (x.b < l.b) && wk x xs)
def l0 : Od := ⟨-1, 0, 0, 0⟩
/-- A belief that can be changed. -/
def isV (V : List Int) (L : List Od) : Bool := decide ((flt L).length ≤ 8) && decide (L.length ≤ 20) && L.any stB && wk l0 L && (V == vof L)
theorem od_drop {L : List Od} {k : Nat} (h : k < L.length) : L.drop k = L.getD k zO :: L.drop (k + 1) := by
  rw [List.drop_eq_getElem_cons h]
  congr 1
  simp [h]
theorem wk_no {l : Od} {L : List Od} {k : Nat} (h : k < L.length) (hx : okR (L.getD k zO) = false) : wk l (L.drop k) = false := by
  rw [od_drop h]; unfold wk; rw [hx]; rfl
theorem wk_st {l : Od} {L : List Od} {k : Nat} (h : k < L.length) (hx : okR (L.getD k zO) = true) (hs : stB (L.getD k zO) = true) : wk l (L.drop k) = wk l (L.drop (k + 1)) := by
  rw [od_drop h]; conv => lhs; unfold wk
  rw [hx, if_pos hs]; rfl
theorem wk_bad {l : Od} {L : List Od} {k : Nat} (h : k < L.length) (hs : stB (L.getD k zO) = false) (hb : (!decide ((L.getD k zO).a ≤ l.a) && !decide ((L.getD k zO).b < l.b)) = false) : wk l (L.drop k) = false := by
  rw [od_drop h]; unfold wk
  rw [if_neg (by rw [hs]; exact Bool.false_ne_true), hb]; simp
theorem wk_go {l : Od} {L : List Od} {k : Nat} (h : k < L.length) (hx : okR (L.getD k zO) = true) (hs : stB (L.getD k zO) = false) (hb : (!decide ((L.getD k zO).a ≤ l.a) && !decide ((L.getD k zO).b < l.b)) = true) : wk l (L.drop k) = wk (L.getD k zO) (L.drop (k + 1)) := by
  rw [od_drop h]; conv => lhs; unfold wk
  rw [hx, if_neg (by rw [hs]; exact Bool.false_ne_true), hb]; rfl
theorem wk_end {l : Od} {L : List Od} : wk l (L.drop L.length) = true := by rw [List.drop_length]; rfl
set_option maxRecDepth 100000 in
set_option maxHeartbeats 8000000 in
theorem flying_any (k : Nat) (vv v : Value) (L : List Od) (w : World) (hC : Cs w k #[vv, v]) (h : OdsAt w v L) (h9 : L.length ≤ 100000) :
    Calls Try.prog 56 #[.pointer (some ⟨k, 0, none⟩)] w fun e w' => ∃ u, e = .returned u ∧ w'.ownsRow w.heap.size 27 4 u (flt L).length (ocs (flt L)) ∧ Below w.heap.size w w' := by
  have HL := Lib.hid h
  have c0 := hC.c 0 rfl
  have c1 := hC.c 1 rfl
  have cz := hC.2.2
  clear hC h
  go_enter Try.func56, Try.ntmps56
  go_wp2_with fail
  refine (those_any v L 69 #[] _ _ HL.out (flying1_fits _) h9 eg69).mono ?_
  rintro e w2 ⟨u, rfl, hu, b2⟩
  have HU := Lib.hid hu
  have HB := Lib.hid b2
  clear hu b2
  go_wp2
  go_ret
  exact ⟨_, rfl, HU.out, HB.out⟩
set_option maxRecDepth 100000 in
set_option maxHeartbeats 8000000 in
theorem isValid_any (k : Nat) (va : Option Addr) (vc : Nat) (V : List Int) (sa : Option Addr) (sc : Nat) (L : List Od) (w : World) (hC : Cs w k #[.slice va V.length vc, .slice sa L.length sc]) (h : OdsAt w (.slice sa L.length sc) L) (hV : IntsAt w (.slice va V.length vc) V) (h9 : L.length ≤ 100000) (h8 : V.length ≤ 100000) :
    Calls Try.prog 52 #[.pointer (some ⟨k, 0, none⟩)] w fun e w' => e = .returned (.bool (isV V L)) ∧ Below w.heap.size w w' := by
  have HL := Lib.hid h
  have HV := Lib.hid hV
  have HC := Lib.hid hC
  have c0 := hC.c 0 rfl
  have c1 := hC.c 1 rfl
  have cz := hC.2.2
  have H8 := Lib.hid h8
  clear hC h hV h8
  go_enter Try.func52, Try.ntmps52
  go_wp2_with fail
  refine (flying_any k _ _ L _ HC.out HL.out h9).mono ?_
  rintro e w2 ⟨u, rfl, hu, b2⟩
  obtain ⟨ua, uc, rfl⟩ := row_slice hu
  have HC2 := Lib.hid (HC.out.step b2)
  have HL2 := Lib.hid (HL.out.step b2)
  have HV2 := Lib.hid (HV.out.step b2)
  clear c0 c1 cz
  have c0 := HC2.out.c 0 rfl
  have c1 := HC2.out.c 1 rfl
  have cz := HC2.out.2.2
  by_cases h1 : 8 < (flt L).length
  · have e1 : (8 : Int) < ((flt L).length : Int) := by omega
    have HE := Lib.hid (show isV V L = false by unfold isV; rw [decide_eq_false (by omega)]; rfl)
    go_wp2
    go_ret
    exact ⟨by rw [HE.out]; rfl, b2⟩
  have e1 : ¬ (8 : Int) < ((flt L).length : Int) := by omega
  by_cases h2 : 20 < L.length
  · have e2 : (20 : Int) < (L.length : Int) := by omega
    have HE := Lib.hid (show isV V L = false by unfold isV; rw [decide_eq_false (show ¬ L.length ≤ 20 by omega)]; simp)
    go_wp2
    go_ret
    exact ⟨by rw [HE.out]; rfl, b2⟩
  have e2 : ¬ (20 : Int) < (L.length : Int) := by omega
  have HW2 := Lib.hid b2
  clear hu b2
  go_wp2_with fail
  refine (contains_f _ L 60 #[] stB _ HL2.out (settled_fits _) eg60).mono ?_
  rintro e w3 ⟨rfl, b3⟩
  have HC3 := Lib.hid (HC2.out.step b3)
  have HL3 := Lib.hid (HL2.out.step b3)
  have HV3 := Lib.hid (HV2.out.step b3)
  have HW3 := Lib.hid (keep2 b3 HW2.out)
  clear c0 c1 cz b3 HC2 HL2 HV2 HW2
  cases hA : L.any stB
  · have HE := Lib.hid (show isV V L = false by unfold isV; rw [hA]; simp)
    go_wp2
    go_ret
    exact ⟨by rw [HE.out]; rfl, HW3.out⟩
  have HE := Lib.hid (show isV V L = (wk l0 L && (V == vof L)) by unfold isV; rw [hA, decide_eq_true (by omega), decide_eq_true (by omega)]; simp)
  have HW4 := Lib.hid (HW3.out.trans ((al w3 (.cells #[.int .i64 (-1), .int .i64 0, .int .i64 0, .int .i64 0] 27)).mono HW3.out.size))
  have HO4 := Lib.hid (Cs.new w3 w3.heap.size #[.int .i64 (-1), .int .i64 0, .int .i64 0, .int .i64 0] 27 rfl)
  have HC4 := Lib.hid (HC3.out.alloc (.cells #[.int .i64 (-1), .int .i64 0, .int .i64 0, .int .i64 0] 27))
  have c0 := HC4.out.c 0 rfl
  have c1 := HC4.out.c 1 rfl
  have cz := HC4.out.2.2
  go_wp2_with fail
  have HL4 := Lib.hid (HL3.out.step (al w3 (.cells #[.int .i64 (-1), .int .i64 0, .int .i64 0, .int .i64 0] 27)))
  have HV4 := Lib.hid (HV3.out.step (al w3 (.cells #[.int .i64 (-1), .int .i64 0, .int .i64 0, .int .i64 0] 27)))
  have HKB := Lib.hid (show k ≠ w3.heap.size from fun e => by have := HC3.out.2.2; omega)
  have HBB := Lib.hid HW3.out.size
  have HAL := Lib.hid (al w3 (.cells #[.int .i64 (-1), .int .i64 0, .int .i64 0, .int .i64 0] 27))
  clear c0 c1 cz HC4 HL4 HV4 HW4
  generalize w3.alloc (.cells #[.int .i64 (-1), .int .i64 0, .int .i64 0, .int .i64 0] 27) = wb at *
  go_loopw [35] (fun iv wr => ∃ i : Nat, i ≤ L.length ∧ iv = .int .i64 i ∧ ∃ l : Od, Hid (Cs wr w3.heap.size #[.int .i64 l.a, .int .i64 l.b, .int .i64 l.c, .int .i64 l.d]) ∧ Hid (wk l0 L = wk l (L.drop i)) ∧ Hid (Below w3.heap.size w3 wr)) (fun iv _ => L.length - (intOf iv).toNat)
  case atStart => exact ⟨0, by omega, rfl, l0, Lib.hid HO4.out, Lib.hid (by rw [List.drop_zero]), Lib.hid HAL.out⟩
  case round =>
    obtain ⟨i, hi, rfl, l, HO, HN, HB⟩ := hrel
    clear HO4 HAL
    have HWr := Lib.hid (HW3.out.trans (HB.out.mono HBB.out))
    by_cases hlt : i < L.length
    · obtain ⟨a1, c1, hv1, -, -, hcs1⟩ := HL3.out.step HB.out
      obtain ⟨rfl, rfl⟩ : sa = a1 ∧ sc = c1 := by simpa using hv1
      obtain ⟨b1, o1, rfl, hx1⟩ := hcs1 (by intro e; rw [e] at hlt; simp at hlt)
      obtain ⟨y0, y1, y2, y3⟩ := hx1 i _ (od_get hlt)
      have yz : b1 < wr.heap.size := World.block_lt_of_cell? _ _ y0
      have t1 : (i : Int) < (L.length : Int) := by omega
      have HG := Lib.hid (show ∀ y, wk l (L.drop i) = y → isV V L = (y && (V == vof L)) from fun y hy => by rw [HE.out, HN.out, hy])
      have HG1 := Lib.hid (fun (h : okR (L.getD i zO) = false) => wk_no (l := l) hlt h)
      have HG2 := Lib.hid (fun (h : okR (L.getD i zO) = true) (hs : stB (L.getD i zO) = true) => wk_st (l := l) hlt h hs)
      have HG3 := Lib.hid (fun (hs : stB (L.getD i zO) = false) (hb : (!decide ((L.getD i zO).a ≤ l.a) && !decide ((L.getD i zO).b < l.b)) = false) => wk_bad (l := l) hlt hs hb)
      have HG4 := Lib.hid (fun (h : okR (L.getD i zO) = true) (hs : stB (L.getD i zO) = false) (hb : (!decide ((L.getD i zO).a ≤ l.a) && !decide ((L.getD i zO).b < l.b)) = true) => wk_go (l := l) hlt h hs hb)
      clear hcs1 hx1 hv1
      generalize L.getD i zO = x at *
      have HX := Lib.hid (Cs.new wr wr.heap.size #[.int .i64 x.a, .int .i64 x.b, .int .i64 x.c, .int .i64 x.d] 27 rfl)
      have HA1 := Lib.hid (al wr (.cells #[.int .i64 x.a, .int .i64 x.b, .int .i64 x.c, .int .i64 x.d] 27))
      have HO1 := Lib.hid (HO.out.step HA1.out)
      have HW1 := Lib.hid (HWr.out.trans (HA1.out.mono HWr.out.size))
      have HB1 := Lib.hid (HB.out.trans (HA1.out.mono HB.out.size))
      have hne : ¬ w3.heap.size = wr.heap.size := by have := HO.out.2.2; omega
      have HNE := Lib.hid hne
      clear hne HO
      have x0 := HX.out.c 0 rfl
      have x1 := HX.out.c 1 rfl
      have x2 := HX.out.c 2 rfl
      have x3 := HX.out.c 3 rfl
      have xz := HX.out.2.2
      cases ra : inr x.a (-1) 1000000000
      · have HF := Lib.hid (HG.out _ (HG1.out (by unfold okR; rw [ra]; rfl)))
        go_wp2_with fail
        refine (within_any _ _ _ _).mono ?_
        rintro e y1 ⟨rfl, b⟩
        rw [ra]
        have HWx := Lib.hid (keep2 b HW1.out)
        clear b
        go_wp2
        exact bodyPost_ret (v := .bool false) (by simp [results, Try.results52, go_sem]) rfl ⟨by rw [HF.out]; rfl, HWx.out⟩
      go_wp2_with fail
      refine (within_any _ _ _ _).mono ?_
      rintro e v1 ⟨rfl, b⟩
      rw [ra]
      have HW2 := Lib.hid (keep2 b HW1.out)
      have HX2 := Lib.hid (HX.out.step b)
      have HO2 := Lib.hid (HO1.out.step b)
      have HB2 := Lib.hid (HB1.out.trans (b.mono HB1.out.size))
      clear b x0 x1 x2 x3 xz HX HO1 HB1 HW1
      have x0 := HX2.out.c 0 rfl
      have x1 := HX2.out.c 1 rfl
      have x2 := HX2.out.c 2 rfl
      have x3 := HX2.out.c 3 rfl
      have xz := HX2.out.2.2
      cases rb : inr x.b 0 1000000000
      · have HF := Lib.hid (HG.out _ (HG1.out (by unfold okR; rw [ra, rb]; rfl)))
        go_wp2_with fail
        refine (within_any _ _ _ _).mono ?_
        rintro e y1 ⟨rfl, b⟩
        rw [rb]
        have HWx := Lib.hid (keep2 b HW2.out)
        clear b
        go_wp2
        exact bodyPost_ret (v := .bool false) (by simp [results, Try.results52, go_sem]) rfl ⟨by rw [HF.out]; rfl, HWx.out⟩
      go_wp2_with fail
      refine (within_any _ _ _ _).mono ?_
      rintro e v2 ⟨rfl, b⟩
      rw [rb]
      have HW3 := Lib.hid (keep2 b HW2.out)
      have HX3 := Lib.hid (HX2.out.step b)
      have HO3 := Lib.hid (HO2.out.step b)
      have HB3 := Lib.hid (HB2.out.trans (b.mono HB2.out.size))
      clear b x0 x1 x2 x3 xz HX2 HO2 HB2 HW2
      have x0 := HX3.out.c 0 rfl
      have x1 := HX3.out.c 1 rfl
      have x2 := HX3.out.c 2 rfl
      have x3 := HX3.out.c 3 rfl
      have xz := HX3.out.2.2
      cases rd : inr x.d 0 15
      · have HF := Lib.hid (HG.out _ (HG1.out (by unfold okR; rw [ra, rb, rd]; rfl)))
        go_wp2_with fail
        refine (within_any _ _ _ _).mono ?_
        rintro e y1 ⟨rfl, b⟩
        rw [rd]
        have HWx := Lib.hid (keep2 b HW3.out)
        clear b
        go_wp2
        exact bodyPost_ret (v := .bool false) (by simp [results, Try.results52, go_sem]) rfl ⟨by rw [HF.out]; rfl, HWx.out⟩
      go_wp2_with fail
      refine (within_any _ _ _ _).mono ?_
      rintro e v3 ⟨rfl, b⟩
      rw [rd]
      have HW4 := Lib.hid (keep2 b HW3.out)
      have HX4 := Lib.hid (HX3.out.step b)
      have HO4 := Lib.hid (HO3.out.step b)
      have HB4 := Lib.hid (HB3.out.trans (b.mono HB3.out.size))
      clear b x0 x1 x2 x3 xz HX3 HO3 HB3 HW3
      have x0 := HX4.out.c 0 rfl
      have x1 := HX4.out.c 1 rfl
      have x2 := HX4.out.c 2 rfl
      have x3 := HX4.out.c 3 rfl
      have xz := HX4.out.2.2
      by_cases hc : x.c < -1
      · have HF := Lib.hid (HG.out _ (HG1.out (by unfold okR; rw [ra, rb, rd, decide_eq_true hc]; rfl)))
        have HWx := HW4
        go_wp2
        exact bodyPost_ret (v := .bool false) (by simp [results, Try.results52, go_sem]) rfl ⟨by rw [HF.out]; rfl, HWx.out⟩
      have HOK := Lib.hid (show okR x = true by unfold okR; rw [ra, rb, rd, decide_eq_false hc]; rfl)
      cases hs : stB x with
      | true =>
        have HN2 := Lib.hid (HN.out.trans (HG2.out HOK.out hs))
        go_wp2_with fail
        refine (settled_any x _).mono ?_
        rintro e v4 ⟨rfl, b⟩
        rw [hs]
        have HO5 := Lib.hid (HO4.out.step b)
        have HB5 := Lib.hid (HB4.out.trans (b.mono HB4.out.size))
        clear b x0 x1 x2 x3 xz
        go_wp2
        go_roundw
        case rel => exact ⟨i + 1, hlt, by go_num, l, HO5, HN2, HB5⟩
        case measure => simp [intOf]; omega
      | false =>
        go_wp2_with fail
        refine (settled_any x _).mono ?_
        rintro e v4 ⟨rfl, b⟩
        rw [hs]
        have HW5 := Lib.hid (keep2 b HW4.out)
        have HX5 := Lib.hid (HX4.out.step b)
        have HO5 := Lib.hid (HO4.out.step b)
        have HB5 := Lib.hid (HB4.out.trans (b.mono HB4.out.size))
        clear b x0 x1 x2 x3 xz HX4 HO4 HB4 HW4
        have x0 := HX5.out.c 0 rfl
        have x1 := HX5.out.c 1 rfl
        have x2 := HX5.out.c 2 rfl
        have x3 := HX5.out.c 3 rfl
        have xz := HX5.out.2.2
        have l0' := HO5.out.c 0 rfl
        have l1' := HO5.out.c 1 rfl
        have l2' := HO5.out.c 2 rfl
        have l3' := HO5.out.c 3 rfl
        have lz := HO5.out.2.2
        have f0 := HO5.out.f 0 (by simp)
        have f1 := HO5.out.f 1 (by simp)
        have f2 := HO5.out.f 2 (by simp)
        have f3 := HO5.out.f 3 (by simp)
        by_cases d1 : x.a ≤ l.a
        · have HF := Lib.hid (HG.out _ (HG3.out hs (by rw [decide_eq_true d1]; rfl)))
          have HWx := HW5
          go_wp2
          exact bodyPost_ret (v := .bool false) (by simp [results, Try.results52, go_sem]) rfl ⟨by rw [HF.out]; rfl, HWx.out⟩
        by_cases d2 : x.b < l.b
        · have HF := Lib.hid (HG.out _ (HG3.out hs (by rw [decide_eq_true d2]; simp)))
          have HWx := HW5
          go_wp2
          exact bodyPost_ret (v := .bool false) (by simp [results, Try.results52, go_sem]) rfl ⟨by rw [HF.out]; rfl, HWx.out⟩
        have HN2 := Lib.hid (HN.out.trans (HG4.out HOK.out hs (by rw [decide_eq_false d1, decide_eq_false d2]; rfl)))
        go_wp2
        go_roundw
        case rel => exact ⟨i + 1, hlt, by go_num, x, Lib.hid (Cs.set (Cs.set (Cs.set (Cs.set HO5.out 0 (by simp) (.int .i64 x.a) rfl) 1 (by simp) (.int .i64 x.b) rfl) 2 (by simp) (.int .i64 x.c) rfl) 3 (by simp) (.int .i64 x.d) rfl), HN2, Lib.hid ((((HB5.out.setCell (p := ⟨w3.heap.size, 0, none⟩) (Nat.le_refl _) _).setCell (p := ⟨w3.heap.size, 1, none⟩) (Nat.le_refl _) _).setCell (p := ⟨w3.heap.size, 2, none⟩) (Nat.le_refl _) _).setCell (p := ⟨w3.heap.size, 3, none⟩) (Nat.le_refl _) _)⟩
        case measure => simp [intOf]; omega
    · obtain rfl : i = L.length := by omega
      have HF := Lib.hid (show isV V L = (V == vof L) by rw [HE.out, HN.out, wk_end]; rfl)
      have HLr := Lib.hid (HL3.out.step HB.out)
      have HVr := Lib.hid (HV3.out.step HB.out)
      have HCr := Lib.hid (HC3.out.step HB.out)
      have c0 := HCr.out.c 0 rfl
      have c1 := HCr.out.c 1 rfl
      have cz := HCr.out.2.2
      clear HO HN HE
      have H9 := Lib.hid h9
      go_wp2_with fail
      go_region_law (first | (go_simp; go_at_call 67; refine (valuesOf_any (.slice sa L.length sc) L _ (HLr.out.step (by first | exact Below.refl _ _ | exact below_drew _ _)) H9.out).mono ?_; rintro e w5 ⟨u, rfl, hu, b5⟩; have HW5 := Lib.hid (show Below wr.heap.size wr w5 from by first | exact b5 | exact (below_drew _ _).trans b5); have HU := Lib.hid (ints_of_row hu); have m0 : w5.cell? ⟨k, 0, none⟩ = some (.slice va V.length vc) := (HCr.out.step HW5.out).c 0 rfl; have m1 : w5.cell? ⟨k, 1, none⟩ = some (.slice sa L.length sc) := (HCr.out.step HW5.out).c 1 rfl; have mz : k < w5.heap.size := (HCr.out.step HW5.out).2.2; clear hu b5) | (go_simp; go_at_call 68; refine (equal_own (.slice va V.length vc) _ V (vof L) _ ((HVr.out.step HW5.out).step (by first | exact Below.refl _ _ | exact below_drew _ _)) (HU.out.step (by first | exact Below.refl _ _ | exact below_drew _ _)) H8.out (by have := vof_len L; have := H9.out; omega)).mono ?_; rintro e w6 ⟨rfl, b6⟩; have HW6 := Lib.hid (show Below wr.heap.size wr w6 from by first | exact keep2 b6 HW5.out | exact keep2 ((below_drew _ _).trans b6) HW5.out); clear b6))
      all_goals go_wp2
      all_goals exact bodyPost_ret (v := .bool (V == vof L)) (by simp [results, Try.results52, go_sem]) rfl ⟨by rw [HF.out], keep2 HW6.out HWr.out⟩
end Go.Proofs.Ytigpopemllamdaa
