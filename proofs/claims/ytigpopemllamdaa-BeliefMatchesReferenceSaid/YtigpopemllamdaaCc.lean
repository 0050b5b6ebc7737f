/- Beliefs: the reference's 'Valid'. -/
import Derived.Test.YtigpopemllamdaaCb
import Derived.Deep.CutRange
namespace Go.Proofs.Ytigpopemllamdaa
open Go.RowKit

theorem flt_st {L : List Od} {k : Nat} (h : k < L.length) (hs : stB (L.getD k zO) = true) : (flt (L.drop k)).length = (flt (L.drop (k + 1))).length := by
  rw [od_drop h]; unfold flt; rw [List.filter_cons, if_neg (by rw [hs]; exact Bool.false_ne_true)]
theorem flt_go {L : List Od} {k : Nat} (h : k < L.length) (hs : stB (L.getD k zO) = false) : (flt (L.drop k)).length = (flt (L.drop (k + 1))).length + 1 := by
  rw [od_drop h]; unfold flt; rw [List.filter_cons, if_pos (by rw [hs]; rfl), List.length_cons]
theorem flt_lt (L : List Od) : decide ((flt L).length < L.length) = L.any stB := by
  induction L with
  | nil => rfl
  | cons x L ih =>
    have hle : (flt L).length ≤ L.length := List.length_filter_le _ _
    have e : flt (x :: L) = if (!stB x) = true then x :: flt L else flt L := List.filter_cons
    rw [e]
    cases hs : stB x
    · rw [if_pos (show (!false) = true from rfl), List.any_cons, hs, Bool.false_or, ← ih, List.length_cons, List.length_cons]
      exact decide_eq_decide.2 (by omega)
    · rw [if_neg (by simp), List.any_cons, hs, Bool.true_or, List.length_cons]
      exact decide_eq_true (by omega)
theorem isW_parts (V : List Int) (L : List Od) : isW V L = (wk l0 L && (decide ((flt L).length ≤ 8) && (decide (L.length ≤ 20) && (decide ((flt L).length < L.length) && decide (V = rvl L))))) := by
  unfold isW
  rw [flt_lt]
  have : (V == rvl L) = decide (V = rvl L) := by
    by_cases h : V = rvl L
    · rw [decide_eq_true h]; simpa using h
    · rw [decide_eq_false h]; simpa using h
  rw [this]
  cases wk l0 L <;> cases decide ((flt L).length ≤ 8) <;> cases decide (L.length ≤ 20) <;> cases L.any stB <;> rfl
theorem cs_other {w : World} {n m j : Nat} {vs : Array Value} (h : Cs w n vs) (hne : n ≠ m) (x : Value) : Cs (w.setCell ⟨m, j, none⟩ x) n vs := ((Chg.of (k := m) (Below.refl _ w)).set j x).cs hne h
def lx (l : Od) : Array Value := #[.int .i64 l.a, .int .i64 l.b, .int .i64 l.c, .int .i64 l.d]
set_option maxRecDepth 100000 in
set_option maxHeartbeats 8000000 in
theorem validR_any (va : Option Addr) (vc : Nat) (V : List Int) (sa : Option Addr) (sc : Nat) (L : List Od) (w : World) (h : Rb V L va vc sa sc w) (h9 : L.length ≤ maxLen) (h8 : V.length ≤ maxLen) :
    Calls Try.prog 24 #[.agg #[.slice va V.length vc, .slice sa L.length sc]] w fun e w' => e = .returned (.bool (isW V L)) ∧ Below w.heap.size w w' := by
  obtain ⟨hV, hL⟩ := h
  have HL := Lib.hid hL
  have HV := Lib.hid hV
  have H8 := Lib.hid h8
  have H9 := Lib.hid h9
  have HIW := Lib.hid (isW_parts V L)
  have hm := h9
  unfold maxLen at hm
  clear hV hL h9 h8
  have HB := Lib.hid (al2 (w := w) (o1 := .cells #[.slice va V.length vc, .slice sa L.length sc] 25) (o2 := .cells #[.int .i64 (-1), .int .i64 0, .int .i64 0, .int .i64 0] 27))
  have HC := Lib.hid ((Cs.new w w.heap.size #[.slice va V.length vc, .slice sa L.length sc] 25 rfl).alloc (.cells #[.int .i64 (-1), .int .i64 0, .int .i64 0, .int .i64 0] 27))
  have HO := Lib.hid (Cs.new (w.alloc (.cells #[.slice va V.length vc, .slice sa L.length sc] 25)) (w.heap.size + 1) #[.int .i64 (-1), .int .i64 0, .int .i64 0, .int .i64 0] 27 (by simp))
  go_enter Try.func24, Try.ntmps24
  go_wp2_with fail
  go_loopw [3, 5] (fun fv iv wr => ∃ i fl : Nat, i ≤ L.length ∧ fl ≤ i ∧ iv = .int .i64 i ∧ fv = .int .i64 fl ∧ ∃ l : Od, Hid (Cs wr (w.heap.size + 1) #[.int .i64 l.a, .int .i64 l.b, .int .i64 l.c, .int .i64 l.d]) ∧ Hid (wk l0 L = wk l (L.drop i) ∧ (flt L).length = fl + (flt (L.drop i)).length) ∧ Hid (Cs wr w.heap.size #[.slice va V.length vc, .slice sa L.length sc]) ∧ Hid (Below w.heap.size w wr)) (fun _ iv _ => L.length - (intOf iv).toNat)
  case atStart => exact ⟨0, 0, by omega, by omega, rfl, rfl, l0, Lib.hid HO.out, Lib.hid ⟨by rw [List.drop_zero], by rw [List.drop_zero, Nat.zero_add]⟩, HC, HB⟩
  case round =>
    obtain ⟨i, fl, hi, hfl, rfl, rfl, l, HO1, HN, HC1, HW⟩ := hrel
    clear HB HC HO
    have c0 := HC1.out.c 0 rfl
    have c1 := HC1.out.c 1 rfl
    have cz := HC1.out.2.2
    by_cases hlt : i < L.length
    · obtain ⟨a1, cc1, hv1, -, -, hcs1⟩ := HL.out.step HW.out
      obtain ⟨rfl, rfl⟩ : sa = a1 ∧ sc = cc1 := by simpa using hv1
      obtain ⟨b1, o1, rfl, hx1⟩ := hcs1 (by intro e; rw [e] at hlt; simp at hlt)
      obtain ⟨y0, y1, y2, y3⟩ := hx1 i _ (od_get hlt)
      have yz : b1 < wr.heap.size := World.block_lt_of_cell? _ _ y0
      have t1 : (i : Int) < (L.length : Int) := by omega
      have HG := Lib.hid (show wk l (L.drop i) = false → isW V L = false from fun hy => by rw [HIW.out, HN.out.1, hy]; rfl)
      have HG1 := Lib.hid (fun (h : okR (L.getD i zO) = false) => wk_no (l := l) hlt h)
      have HG2 := Lib.hid (fun (h : okR (L.getD i zO) = true) (hs : stB (L.getD i zO) = true) => And.intro (HN.out.1.trans (wk_st (l := l) hlt h hs)) (HN.out.2.trans (by rw [flt_st hlt hs])))
      have HG3 := Lib.hid (fun (hs : stB (L.getD i zO) = false) (hb : (!decide ((L.getD i zO).a ≤ l.a) && !decide ((L.getD i zO).b < l.b)) = false) => wk_bad (l := l) hlt hs hb)
      have HG4 := Lib.hid (fun (h : okR (L.getD i zO) = true) (hs : stB (L.getD i zO) = false) (hb : (!decide ((L.getD i zO).a ≤ l.a) && !decide ((L.getD i zO).b < l.b)) = true) => And.intro (HN.out.1.trans (wk_go (l := l) hlt h hs hb)) (HN.out.2.trans (show _ = fl + 1 + (flt (L.drop (i + 1))).length by rw [flt_go hlt hs]; omega)))
      clear hcs1 hx1 hv1
      generalize L.getD i zO = x at *
      have HX := Lib.hid (Cs.new wr wr.heap.size #[.int .i64 x.a, .int .i64 x.b, .int .i64 x.c, .int .i64 x.d] 27 rfl)
      have HA1 := Lib.hid (al wr (.cells #[.int .i64 x.a, .int .i64 x.b, .int .i64 x.c, .int .i64 x.d] 27))
      have HO2 := Lib.hid (HO1.out.step HA1.out)
      have HC2 := Lib.hid (HC1.out.step HA1.out)
      have HW1 := Lib.hid (keep2 HA1.out HW.out)
      clear HO1 HC1
      by_cases hc : x.c < -1
      · have HF := Lib.hid (HG.out (HG1.out (by unfold okR; rw [decide_eq_true hc]; simp)))
        go_wp2
        exact bodyPost_ret (v := .bool false) (by simp [results, Try.results24, go_sem]) rfl ⟨by rw [HF.out], HW1.out⟩
      have HCC := Lib.hid (decide_eq_false hc)
      have x0 := HX.out.c 0 rfl
      have x1 := HX.out.c 1 rfl
      have x2 := HX.out.c 2 rfl
      have x3 := HX.out.c 3 rfl
      have xz := HX.out.2.2
      cases ra : inr x.a (-1) 1000000000
      · have HF := Lib.hid (HG.out (HG1.out (by unfold okR; rw [ra]; simp)))
        go_wp2_with fail
        refine (between_any _ _ _ _).mono ?_
        rintro e w1 ⟨rfl, b⟩
        rw [ra]
        have HWx := Lib.hid (keep2 b HW1.out)
        clear b
        go_wp2
        exact bodyPost_ret (v := .bool false) (by simp [results, Try.results24, go_sem]) rfl ⟨by rw [HF.out], HWx.out⟩
      go_wp2_with fail
      refine (between_any _ _ _ _).mono ?_
      rintro e q0 ⟨rfl, b⟩
      rw [ra]
      have HX5 := Lib.hid (HX.out.step b)
      have HO5 := Lib.hid (HO2.out.step b)
      have HC5 := Lib.hid (HC2.out.step b)
      have HW5 := Lib.hid (keep2 b HW1.out)
      clear b x0 x1 x2 x3 xz HX HO2 HC2
      clear c0 c1 cz y0 y1 y2 y3 yz
      have x0 := HX5.out.c 0 rfl
      have x1 := HX5.out.c 1 rfl
      have x2 := HX5.out.c 2 rfl
      have x3 := HX5.out.c 3 rfl
      have xz := HX5.out.2.2
      cases rb : inr x.b 0 1000000000
      · have HF := Lib.hid (HG.out (HG1.out (by unfold okR; rw [ra, rb]; simp)))
        go_wp2_with fail
        refine (between_any _ _ _ _).mono ?_
        rintro e w1 ⟨rfl, b⟩
        rw [rb]
        have HWx := Lib.hid (keep2 b HW5.out)
        clear b
        go_wp2
        exact bodyPost_ret (v := .bool false) (by simp [results, Try.results24, go_sem]) rfl ⟨by rw [HF.out], HWx.out⟩
      go_wp2_with fail
      refine (between_any _ _ _ _).mono ?_
      rintro e q1 ⟨rfl, b⟩
      rw [rb]
      have HX6 := Lib.hid (HX5.out.step b)
      have HO6 := Lib.hid (HO5.out.step b)
      have HC6 := Lib.hid (HC5.out.step b)
      have HW6 := Lib.hid (keep2 b HW5.out)
      clear b x0 x1 x2 x3 xz HX5 HO5 HC5
      have x0 := HX6.out.c 0 rfl
      have x1 := HX6.out.c 1 rfl
      have x2 := HX6.out.c 2 rfl
      have x3 := HX6.out.c 3 rfl
      have xz := HX6.out.2.2
      cases rd : inr x.d 0 15
      · have HF := Lib.hid (HG.out (HG1.out (by unfold okR; rw [ra, rb, rd]; simp)))
        go_wp2_with fail
        refine (between_any _ _ _ _).mono ?_
        rintro e w1 ⟨rfl, b⟩
        rw [rd]
        have HWx := Lib.hid (keep2 b HW6.out)
        clear b
        go_wp2
        exact bodyPost_ret (v := .bool false) (by simp [results, Try.results24, go_sem]) rfl ⟨by rw [HF.out], HWx.out⟩
      go_wp2_with fail
      refine (between_any _ _ _ _).mono ?_
      rintro e q2 ⟨rfl, b⟩
      rw [rd]
      have HX7 := Lib.hid (HX6.out.step b)
      have HO7 := Lib.hid (HO6.out.step b)
      have HC7 := Lib.hid (HC6.out.step b)
      have HW7 := Lib.hid (keep2 b HW6.out)
      clear b x0 x1 x2 x3 xz HX6 HO6 HC6
      have x0 := HX7.out.c 0 rfl
      have x1 := HX7.out.c 1 rfl
      have x2 := HX7.out.c 2 rfl
      have x3 := HX7.out.c 3 rfl
      have xz := HX7.out.2.2
      have HOK := Lib.hid (show okR x = true by unfold okR; rw [ra, rb, rd, HCC.out]; rfl)
      clear ra rb rd
      cases hs : stB x with
      | true =>
        have HN2 := Lib.hid (HG2.out HOK.out hs)
        go_wp2_with fail
        refine (settledR_any x _).mono ?_
        rintro e v4 ⟨rfl, b⟩
        rw [hs]
        have HX8 := Lib.hid (HX7.out.step b)
        have HO8 := Lib.hid (HO7.out.step b)
        have HC8 := Lib.hid (HC7.out.step b)
        have HW8 := Lib.hid (keep2 b HW7.out)
        clear b x0 x1 x2 x3 xz HX7 HO7 HC7
        clear HG HG1 HG2 HG3 HG4
        go_wp2
        go_roundw
        case rel => exact ⟨i + 1, fl, hlt, by omega, by go_num, rfl, l, HO8, HN2, HC8, HW8⟩
        case measure => simp [intOf]; omega
      | false =>
        go_wp2_with fail
        refine (settledR_any x _).mono ?_
        rintro e v4 ⟨rfl, b⟩
        rw [hs]
        have HX8 := Lib.hid (HX7.out.step b)
        have HO8 := Lib.hid (HO7.out.step b)
        have HC8 := Lib.hid (HC7.out.step b)
        have HW8 := Lib.hid (keep2 b HW7.out)
        clear b x0 x1 x2 x3 xz HX7 HO7 HC7
        have x0 := HX8.out.c 0 rfl
        have x1 := HX8.out.c 1 rfl
        have x2 := HX8.out.c 2 rfl
        have x3 := HX8.out.c 3 rfl
        have xz := HX8.out.2.2
        have l0' := HO8.out.c 0 rfl
        have l1' := HO8.out.c 1 rfl
        have l2' := HO8.out.c 2 rfl
        have l3' := HO8.out.c 3 rfl
        have lz := HO8.out.2.2
        have f0 := HO8.out.f 0 (by simp)
        have f1 := HO8.out.f 1 (by simp)
        have f2 := HO8.out.f 2 (by simp)
        have f3 := HO8.out.f 3 (by simp)
        by_cases d1 : x.a ≤ l.a
        · have HF := Lib.hid (HG.out (HG3.out hs (by rw [decide_eq_true d1]; rfl)))
          go_wp2
          exact bodyPost_ret (v := .bool false) (by simp [results, Try.results24, go_sem]) rfl ⟨by rw [HF.out], HW8.out⟩
        by_cases d2 : x.b < l.b
        · have HF := Lib.hid (HG.out (HG3.out hs (by rw [decide_eq_true d2]; simp)))
          go_wp2
          exact bodyPost_ret (v := .bool false) (by simp [results, Try.results24, go_sem]) rfl ⟨by rw [HF.out], HW8.out⟩
        have HN2 := Lib.hid (HG4.out HOK.out hs (by rw [decide_eq_false d1, decide_eq_false d2]; rfl))
        clear HG HG1 HG2 HG3 HG4
        have HNE := Lib.hid (show w.heap.size ≠ w.heap.size + 1 by omega)
        go_wp2
        go_roundw
        case rel => exact ⟨i + 1, fl + 1, hlt, by omega, by go_num, by go_num, x, Lib.hid (Cs.set (Cs.set (Cs.set (Cs.set HO8.out 0 (by simp) (.int .i64 x.a) rfl) 1 (by simp) (.int .i64 x.b) rfl) 2 (by simp) (.int .i64 x.c) rfl) 3 (by simp) (.int .i64 x.d) rfl), HN2, Lib.hid (cs_other (cs_other (cs_other (cs_other HC8.out HNE.out _) HNE.out _) HNE.out _) HNE.out _), Lib.hid ((((HW8.out.setCell (p := ⟨w.heap.size + 1, 0, none⟩) (by simp) _).setCell (p := ⟨w.heap.size + 1, 1, none⟩) (by simp) _).setCell (p := ⟨w.heap.size + 1, 2, none⟩) (by simp) _).setCell (p := ⟨w.heap.size + 1, 3, none⟩) (by simp) _)⟩
        case measure => simp [intOf]; omega
    · obtain rfl : i = L.length := by omega
      have HFL := Lib.hid (show (flt L).length = fl by rw [HN.out.2, List.drop_length]; rfl)
      have HF := Lib.hid (show isW V L = (decide (fl ≤ 8) && (decide (L.length ≤ 20) && (decide (fl < L.length) && decide (V = rvl L)))) by rw [HIW.out, HN.out.1, wk_end, HFL.out, Bool.true_and])
      have HLr := Lib.hid (HL.out.step HW.out)
      have HVr := Lib.hid (HV.out.step HW.out)
      clear HO1 HN HIW HFL
      by_cases g1 : fl ≤ 8
      rotate_left
      · have HE := Lib.hid (show isW V L = false by rw [HF.out, decide_eq_false g1]; rfl)
        have j1 : decide ((fl : Int) ≤ 8) = false := decide_eq_false (by omega)
        have j2 : ¬ (fl : Int) ≤ 8 := by omega
        go_wp2_with fail
        go_quiet (fail)
        go_wp2
        exact bodyPost_ret (v := .bool false) (by simp [results, Try.results24, go_sem]) rfl ⟨by rw [HE.out], HW.out.trans (below_drewN' _ _ _)⟩
      have j1 : (fl : Int) ≤ 8 := by omega
      have j1' : decide ((fl : Int) ≤ 8) = true := decide_eq_true j1
      by_cases g2 : L.length ≤ 20
      rotate_left
      · have HE := Lib.hid (show isW V L = false by rw [HF.out, decide_eq_false g2]; simp)
        have j2 : decide ((L.length : Int) ≤ 20) = false := decide_eq_false (by omega)
        have j2' : ¬ (L.length : Int) ≤ 20 := by omega
        go_wp2_with fail
        go_quiet (fail)
        go_wp2
        exact bodyPost_ret (v := .bool false) (by simp [results, Try.results24, go_sem]) rfl ⟨by rw [HE.out], HW.out.trans (below_drewN' _ _ _)⟩
      have j2 : (L.length : Int) ≤ 20 := by omega
      have j2' : decide ((L.length : Int) ≤ 20) = true := decide_eq_true j2
      by_cases g3 : fl < L.length
      rotate_left
      · have HE := Lib.hid (show isW V L = false by rw [HF.out, decide_eq_false g3]; simp)
        have j3 : decide ((fl : Int) < (L.length : Int)) = false := decide_eq_false (by omega)
        have j3' : ¬ (fl : Int) < (L.length : Int) := by omega
        go_wp2_with fail
        go_quiet (fail)
        go_wp2
        exact bodyPost_ret (v := .bool false) (by simp [results, Try.results24, go_sem]) rfl ⟨by rw [HE.out], HW.out.trans (below_drewN' _ _ _)⟩
      have j3 : (fl : Int) < (L.length : Int) := by omega
      have j3' : decide ((fl : Int) < (L.length : Int)) = true := decide_eq_true j3
      have HE := Lib.hid (show isW V L = decide (V = rvl L) by rw [HF.out, decide_eq_true g1, decide_eq_true g2, decide_eq_true g3]; simp)
      go_wp2_with fail
      go_region_law (first | (go_simp; go_at_call 50; refine (valuesR_any (.slice sa L.length sc) L _ (HLr.out.step (by first | exact Below.refl _ _ | exact below_drew _ _)) H9.out).mono ?_; rintro e w5 ⟨u, rfl, hu, b5⟩; have HW5 := Lib.hid (show Below wr.heap.size wr w5 from by first | exact b5 | exact (below_drew _ _).trans b5); have HU := Lib.hid hu; have m0 : w5.cell? ⟨w.heap.size, 0, none⟩ = some (.slice va V.length vc) := (HC1.out.step HW5.out).c 0 rfl; have m1 : w5.cell? ⟨w.heap.size, 1, none⟩ = some (.slice sa L.length sc) := (HC1.out.step HW5.out).c 1 rfl; have mz : w.heap.size < w5.heap.size := (HC1.out.step HW5.out).2.2; clear hu b5) | (go_simp; go_at_call 33; refine (ints_b (.slice va V.length vc) _ V (rvl L) _ ((HVr.out.step HW5.out).step (by first | exact Below.refl _ _ | exact below_drew _ _)) (HU.out.step (by first | exact Below.refl _ _ | exact below_drew _ _))).mono ?_; rintro e w6 ⟨rfl, b6⟩; have HW6 := Lib.hid (show Below wr.heap.size wr w6 from by first | exact keep2 b6 HW5.out | exact keep2 ((below_drew _ _).trans b6) HW5.out); clear b6))
      all_goals go_wp2
      all_goals exact bodyPost_ret (v := .bool (decide (V = rvl L))) (by simp [results, Try.results24, go_sem]) rfl ⟨by rw [HE.out], keep2 HW6.out HW.out⟩
end Go.Proofs.Ytigpopemllamdaa
