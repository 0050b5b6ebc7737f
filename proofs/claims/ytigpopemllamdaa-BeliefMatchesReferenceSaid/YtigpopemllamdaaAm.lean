/- Beliefs: a report. -/
import Derived.Test.YtigpopemllamdaaAl
namespace Go.Proofs.Ytigpopemllamdaa
open Go.RowKit

def rpT (t : Int) : Od → Bool := fun x => decide (t < x.a)
/-- The greatest fence of the orders up to 't'. -/
def rpB (t : Int) (L : List Od) : Int := L.foldl (fun b x => if rpT t x = true then b else max b x.b) 0
def rpE (V : List Int) (L : List Od) (v t : Int) : Int :=
  if inr t (-1) 1000000000 = false then 1
  else if (!V.contains v || (L.filter stB).any (rpT t)) = true then 28
  else 0
def rpM (L : List Od) (v t : Int) : List Od := ⟨t, rpB t L, -1, v⟩ :: (flt L).filter (rpT t)
theorem rpB_step {t : Int} {L : List Od} {i : Nat} (h : i < L.length) : rpB t (L.take (i + 1)) = if rpT t (L.getD i zO) = true then rpB t (L.take i) else max (rpB t (L.take i)) (L.getD i zO).b := by
  have e : L.take (i + 1) = L.take i ++ [L.getD i zO] := by rw [List.take_add_one, od_get h]; rfl
  unfold rpB
  rw [e, List.foldl_append]; rfl
theorem step_app_list {ops : Array Oper} {op : Oper} {a : Act} {W : World} {K : Act → World → Prop} {Q : Exit → Act → World → Prop} {E : Prop} (hgd : op.guard = none) (s x : Operand)
    (ho : op.op = .call { callee := .builtin .append, args := #[s, x], argTypes := #[23, 23] }) (B : Nat) (L M : List Od) (u : Value) (ad : Option Addr) (c : Nat) (hs : a.eval s = u) (hx : a.eval x = .slice ad M.length c)
    (hrow : W.ownsRow B 27 4 u L.length (ocs L)) (hl : OdsAt W (.slice ad M.length c) M) (h9 : L.length + M.length ≤ 100000) (hB : B ≤ W.heap.size)
    (h : ∀ v' w5, w5.ownsRow B 27 4 v' (L ++ M).length (ocs (L ++ M)) → Below B W w5 → K (a.put op.dst v') w5) :
    if Region.wanted op (yielded ops a.tmps) = true then Oper.wp Try.prog op a W K Q else E := by
  have hw : Region.wanted op (yielded ops a.tmps) = true := by simp [Region.wanted, hgd]
  obtain ⟨v', w5, hr, ho5, hb5⟩ := app_list W B u L M hrow ad c hl h9 hB op.type
  rw [if_pos hw]
  unfold Oper.wp execOp
  simp only [ho, resolve, invoke, builtin, Sem.run_bind, Sem.run_pure, Result.andThen_ok, List.map_toArray, List.map_cons, List.map_nil, hs, hx, hr]
  exact h v' w5 ho5 hb5
theorem row_one (W : World) (x : Od) (B : Nat) (hB : B ≤ W.heap.size) : (W.alloc (.cells #[.int .i64 x.a, .int .i64 x.b, .int .i64 x.c, .int .i64 x.d] 27)).ownsRow B 27 4 (.slice (some ⟨W.heap.size, 0, none⟩) 1 1) [x].length (ocs [x]) :=
  ⟨rfl, .inr ⟨W.heap.size, 1, _, rfl, hB, heap_alloc_new _ _, by simp, by unfold maxLen; omega, rfl, rfl⟩⟩
set_option maxRecDepth 100000 in
set_option maxHeartbeats 8000000 in
theorem report_any (k : Nat) (va : Option Addr) (vc : Nat) (V : List Int) (sa : Option Addr) (sc : Nat) (L : List Od) (v t : Int) (w : World) (hC : Cs w k #[.slice va V.length vc, .slice sa L.length sc]) (h : OdsAt w (.slice sa L.length sc) L) (hV : IntsAt w (.slice va V.length vc) V) (h9 : L.length ≤ 300) (h8 : V.length ≤ 300) :
    Calls Try.prog 46 #[.pointer (some ⟨k, 0, none⟩), .int .i64 v, .int .i64 t] w (Done k w (rpE V L v t) (rpM L v t)) := by
  have HQ0 := Lib.hid (Cs.new w w.heap.size #[.int .i64 t] 3 rfl)
  have HB0 := Lib.hid (al w (.cells #[.int .i64 t] 3))
  have HL0 := Lib.hid (h.step HB0.out)
  have HC0 := Lib.hid (hC.step HB0.out)
  have HV0 := Lib.hid (hV.step HB0.out)
  have H9 := Lib.hid h9
  have H8 := Lib.hid h8
  have HX := Lib.hid hC.2.2
  have q0 := HQ0.out.c 0 rfl
  have qz := HQ0.out.2.2
  clear hC h h9 hV h8
  cases ra : inr t (-1) 1000000000
  · have HE := Lib.hid (show rpE V L v t = 1 by unfold rpE; rw [if_pos ra])
    go_enter Try.func46, Try.ntmps46
    go_wp2_with fail
    refine (within_any _ _ _ _).mono ?_
    rintro e y1 ⟨rfl, b⟩
    rw [ra]
    have HB1 := Lib.hid (keep2 b HB0.out)
    clear b q0 qz
    go_wp2
    exact bodyPost_ret (v := .int .i64 1) (by simp [results, Try.results46, go_sem]) rfl ⟨by rw [HE.out], Chg.of HB1.out, fun e => by rw [HE.out] at e; cases e⟩
  go_enter Try.func46, Try.ntmps46
  go_wp2_with fail
  refine (within_any _ _ _ _).mono ?_
  rintro e y1 ⟨rfl, b⟩
  rw [ra]
  have HB1 := Lib.hid (keep2 b HB0.out)
  have HQ1 := Lib.hid (HQ0.out.step b)
  have HL1 := Lib.hid (HL0.out.step b)
  have HC1 := Lib.hid (HC0.out.step b)
  have HV1 := Lib.hid (HV0.out.step b)
  clear b q0 qz HB0 HQ0 HL0 HC0 HV0
  have q0 := HQ1.out.c 0 rfl
  have qz := HQ1.out.2.2
  have c0 := HC1.out.c 0 rfl
  have c1 := HC1.out.c 1 rfl
  have cz := HC1.out.2.2
  cases rv : V.contains v
  · have HE := Lib.hid (show rpE V L v t = 28 by unfold rpE; rw [if_neg (by rw [ra]; exact Bool.noConfusion), rv]; rfl)
    go_wp2_with fail
    refine (contains_own _ V v _ HV1.out (by have := H8.out; omega)).mono ?_
    rintro e y2 ⟨rfl, rfl⟩
    rw [rv]
    go_wp2
    exact bodyPost_ret (v := .int .i64 28) (by simp [results, Try.results46, go_sem]) rfl ⟨by rw [HE.out], Chg.of HB1.out, fun e => by rw [HE.out] at e; cases e⟩
  go_wp2_with fail
  refine (contains_own _ V v _ HV1.out (by have := H8.out; omega)).mono ?_
  rintro e y2 ⟨rfl, rfl⟩
  rw [rv]
  go_wp2_with fail
  refine (those_any _ L 60 #[] stB _ HL1.out (settled_fits _) (by have := H9.out; omega) eg60).mono ?_
  rintro e y3 ⟨u3, rfl, hu3, b⟩
  have HU3 := Lib.hid (ods_of_row rfl hu3)
  have HB3 := Lib.hid (keep2 b HB1.out)
  have HQ3 := Lib.hid (HQ1.out.step b)
  have HL3 := Lib.hid (HL1.out.step b)
  have HC3 := Lib.hid (HC1.out.step b)
  clear hu3 b q0 qz c0 c1 cz HB1 HQ1 HL1 HC1 HV1
  go_wp2_with fail
  refine (contains_f u3 (L.filter stB) 65 #[.pointer (some ⟨w.heap.size, 0, none⟩)] (rpT t) _ HU3.out (report1_fits t w.heap.size _ HQ3.out) eg65).mono ?_
  rintro e y4 ⟨rfl, b⟩
  have HB4 := Lib.hid (keep2 b HB3.out)
  have HQ4 := Lib.hid (HQ3.out.step b)
  have HL4 := Lib.hid (HL3.out.step b)
  have HC4 := Lib.hid (HC3.out.step b)
  clear b HB3 HQ3 HL3 HC3 HU3
  have q0 := HQ4.out.c 0 rfl
  have qz := HQ4.out.2.2
  have c0 := HC4.out.c 0 rfl
  have c1 := HC4.out.c 1 rfl
  have cz := HC4.out.2.2
  cases rs : (L.filter stB).any (rpT t)
  rotate_left
  · have HE := Lib.hid (show rpE V L v t = 28 by unfold rpE; rw [if_neg (by rw [ra]; exact Bool.noConfusion), rv, rs]; rfl)
    go_wp2
    exact bodyPost_ret (v := .int .i64 28) (by simp [results, Try.results46, go_sem]) rfl ⟨by rw [HE.out], Chg.of HB4.out, fun e => by rw [HE.out] at e; cases e⟩
  have HE := Lib.hid (show rpE V L v t = 0 by unfold rpE; rw [if_neg (by rw [ra]; exact Bool.noConfusion), rv, rs]; rfl)
  clear ra rv rs
  have HO5 := Lib.hid (Cs.new y4 y4.heap.size #[.int .i64 t, .int .i64 0, .int .i64 (-1), .int .i64 v] 27 rfl)
  have HA5 := Lib.hid (al y4 (.cells #[.int .i64 t, .int .i64 0, .int .i64 (-1), .int .i64 v] 27))
  have HB5 := Lib.hid (keep2 HA5.out HB4.out)
  have HC5 := Lib.hid (HC4.out.step HA5.out)
  have c0 := HC5.out.c 0 rfl
  have c1 := HC5.out.c 1 rfl
  have cz := HC5.out.2.2
  go_wp2_with fail
  clear c0 c1 cz
  have HKB := Lib.hid (show k < y4.heap.size from HC4.out.2.2)
  have HWB := Lib.hid HB4.out.size
  go_loopw [42] (fun iv wr => ∃ i : Nat, i ≤ L.length ∧ iv = .int .i64 i ∧ Hid (Cs wr y4.heap.size #[.int .i64 t, .int .i64 (rpB t (L.take i)), .int .i64 (-1), .int .i64 v]) ∧ Hid (Below y4.heap.size y4 wr)) (fun iv _ => L.length - (intOf iv).toNat)
  case atStart => exact ⟨0, by omega, rfl, Lib.hid HO5.out, Lib.hid HA5.out⟩
  case round =>
    obtain ⟨i, hi, rfl, HO, HB⟩ := hrel
    clear HO5 HA5 HB5 HC5
    have h300 := H9.out
    by_cases hlt : i < L.length
    · obtain ⟨a1, d1, hv1, -, -, hcs1⟩ := HL4.out.step HB.out
      obtain ⟨rfl, rfl⟩ : sa = a1 ∧ sc = d1 := by simpa using hv1
      obtain ⟨b1, o1, rfl, hx1⟩ := hcs1 (by intro e; rw [e] at hlt; simp at hlt)
      obtain ⟨z0, z1, z2, z3⟩ := hx1 i _ (od_get hlt)
      have yz : b1 < wr.heap.size := World.block_lt_of_cell? _ _ z0
      have t1 : (i : Int) < (L.length : Int) := by omega
      have HS := Lib.hid (rpB_step (t := t) hlt)
      clear hcs1 hx1 hv1
      generalize L.getD i zO = x at *
      generalize rpB t (L.take i) = B at *
      have HA := Lib.hid (al wr (.cells #[.int .i64 x.a, .int .i64 x.b, .int .i64 x.c, .int .i64 x.d] 27))
      have HXx := Lib.hid (Cs.new wr wr.heap.size #[.int .i64 x.a, .int .i64 x.b, .int .i64 x.c, .int .i64 x.d] 27 rfl)
      have HO1 := Lib.hid (HO.out.step HA.out)
      have HB1 := Lib.hid (HB.out.trans (HA.out.mono HB.out.size))
      have HQ1 := Lib.hid ((HQ4.out.step HB.out).step HA.out)
      have x0 := HXx.out.c 0 rfl
      have x1 := HXx.out.c 1 rfl
      have x2 := HXx.out.c 2 rfl
      have x3 := HXx.out.c 3 rfl
      have xz := HXx.out.2.2
      go_wp2_with fail
      refine (report1_any x t w.heap.size _ HQ1.out).mono ?_
      rintro e y5 ⟨rfl, b⟩
      have HO5 := Lib.hid (HO1.out.step b)
      have HX5 := Lib.hid (HXx.out.step b)
      have HB5 := Lib.hid (HB1.out.trans (b.mono HB1.out.size))
      clear b x0 x1 x2 x3 xz z0 z1 z2 z3 yz HO HA HXx HO1 HB1 HQ1
      cases hd : decide (t < x.a) with
      | true =>
        have HN := Lib.hid (show rpB t (L.take (i + 1)) = B from HS.out.trans (if_pos hd))
        go_wp2
        go_roundw
        case rel => exact ⟨i + 1, hlt, by go_num, by rw [HN.out]; exact HO5, HB5⟩
        case measure => simp [intOf]; omega
      | false =>
        have HN := Lib.hid (show rpB t (L.take (i + 1)) = max B x.b from HS.out.trans (if_neg (show ¬ rpT t x = true by unfold rpT; rw [hd]; exact Bool.noConfusion)))
        have x1 := HX5.out.c 1 rfl
        have xz := HX5.out.2.2
        have l1 := HO5.out.c 1 rfl
        have f1 := HO5.out.f 1 (by simp)
        have lz := HO5.out.2.2
        go_wp2
        go_roundw
        case rel => exact ⟨i + 1, hlt, by go_num, by rw [HN.out]; exact Lib.hid (Cs.set HO5.out 1 (by simp) (.int .i64 (max B x.b)) rfl), Lib.hid (HB5.out.setCell (p := ⟨y4.heap.size, 1, none⟩) (Nat.le_refl _) _)⟩
        case measure => simp [intOf]; omega
    · obtain rfl : i = L.length := by omega
      rw [List.take_length] at HO
      have HLr := Lib.hid (HL4.out.step HB.out)
      have HCr := Lib.hid (HC4.out.step HB.out)
      have HQr := Lib.hid (HQ4.out.step HB.out)
      have HBr := Lib.hid (HB4.out.trans (HB.out.mono HWB.out))
      have hm : Hid (rpM L v t = ⟨t, rpB t L, -1, v⟩ :: (flt L).filter (rpT t)) := Lib.hid rfl
      generalize rpB t L = B at *
      have c0 := HCr.out.c 0 rfl
      have c1 := HCr.out.c 1 rfl
      have cz := HCr.out.2.2
      have o0 := HO.out.c 0 rfl
      have o1 := HO.out.c 1 rfl
      have o2 := HO.out.c 2 rfl
      have o3 := HO.out.c 3 rfl
      have oz := HO.out.2.2
      clear h300
      have HLL := Lib.hid (show ([⟨t, B, -1, v⟩] : List Od).length + ((flt L).filter (rpT t)).length ≤ 100000 by have := H9.out; have := List.length_filter_le (fun x => !stB x) L; have := List.length_filter_le (rpT t) (flt L); unfold flt at *; simp only [List.length_cons, List.length_nil]; omega)
      go_wp2_with fail
      go_region_law (first | (go_simp; go_at_call 56; refine (flying_any k _ _ L _ (HCr.out.step (by first | exact Below.refl _ _ | exact below_drew _ _ | exact al _ _ | exact (al _ _).trans (below_drew _ _))) (HLr.out.step (by first | exact Below.refl _ _ | exact below_drew _ _ | exact al _ _ | exact (al _ _).trans (below_drew _ _))) (by have := H9.out; omega)).mono ?_; rintro e w3 ⟨u, rfl, hu, b3⟩; have HU3 := Lib.hid (ods_of_row rfl hu); have HW3 := Lib.hid (show Below wr.heap.size wr w3 from by first | exact b3 | exact (below_drew _ _).trans b3 | exact keep2 b3 (al _ _) | exact keep2 b3 ((al _ _).trans (below_drew _ _))); (first | (have HN3 := Lib.hid (row_step (row_step (row_one wr ⟨t, B, -1, v⟩ wr.heap.size (Nat.le_refl _)) (below_drew _ _)) b3)) | skip); have m0w3 : w3.cell? ⟨y4.heap.size, 0, none⟩ = some (.int .i64 t) := (HO.out.step HW3.out).c 0 rfl; have m1w3 : w3.cell? ⟨y4.heap.size, 1, none⟩ = some (.int .i64 B) := (HO.out.step HW3.out).c 1 rfl; have m2w3 : w3.cell? ⟨y4.heap.size, 2, none⟩ = some (.int .i64 (-1)) := (HO.out.step HW3.out).c 2 rfl; have m3w3 : w3.cell? ⟨y4.heap.size, 3, none⟩ = some (.int .i64 v) := (HO.out.step HW3.out).c 3 rfl; have mzw3 : y4.heap.size < w3.heap.size := (HO.out.step HW3.out).2.2; clear hu b3) | (go_simp; go_at_call 61; refine (those_any u (flt L) 65 #[.pointer (some ⟨w.heap.size, 0, none⟩)] (rpT t) _ (HU3.out.step (by first | exact Below.refl _ _ | exact below_drew _ _ | exact al _ _ | exact (al _ _).trans (below_drew _ _))) (report1_fits t w.heap.size _ ((HQr.out.step HW3.out).step (by first | exact Below.refl _ _ | exact below_drew _ _ | exact al _ _ | exact (al _ _).trans (below_drew _ _)))) (by have := H9.out; have := List.length_filter_le (fun x => !stB x) L; unfold flt; omega) eg65).mono ?_; rintro e w5 ⟨u5, rfl, hu, b5⟩; obtain ⟨a5, c5, rfl⟩ := row_slice hu; have HU5 := Lib.hid (ods_of_row rfl hu); have HW5 := Lib.hid (show Below wr.heap.size wr w5 from by first | exact keep2 b5 HW3.out | exact keep2 (keep2 b5 (al _ _)) HW3.out | exact keep2 ((below_drew _ _).trans b5) HW3.out); (first | (have HN5 := Lib.hid (row_step HN3.out b5)) | (have HN5 := Lib.hid (row_step (row_one w3 ⟨t, B, -1, v⟩ wr.heap.size HW3.out.size) b5)) | skip); have m0w5 : w5.cell? ⟨y4.heap.size, 0, none⟩ = some (.int .i64 t) := (HO.out.step HW5.out).c 0 rfl; have m1w5 : w5.cell? ⟨y4.heap.size, 1, none⟩ = some (.int .i64 B) := (HO.out.step HW5.out).c 1 rfl; have m2w5 : w5.cell? ⟨y4.heap.size, 2, none⟩ = some (.int .i64 (-1)) := (HO.out.step HW5.out).c 2 rfl; have m3w5 : w5.cell? ⟨y4.heap.size, 3, none⟩ = some (.int .i64 v) := (HO.out.step HW5.out).c 3 rfl; have mzw5 : y4.heap.size < w5.heap.size := (HO.out.step HW5.out).2.2; clear hu b5) | ((first | refine step_app_list rfl (.tmp 59) (.tmp 63) rfl wr.heap.size [⟨t, B, -1, v⟩] ((flt L).filter (rpT t)) (.slice (some ⟨wr.heap.size, 0, none⟩) 1 1) a5 c5 (by simp [Act.eval]) (by simp [Act.eval]) (HN5.out) (HU5.out.step (by first | exact Below.refl _ _ | exact below_drew _ _ | exact al _ _ | exact (al _ _).trans (below_drew _ _))) HLL.out (by have := HW5.out.size; simp; omega) ?_ | refine step_app_list rfl (.tmp 59) (.tmp 63) rfl wr.heap.size [⟨t, B, -1, v⟩] ((flt L).filter (rpT t)) (.slice (some ⟨w3.heap.size, 0, none⟩) 1 1) a5 c5 (by simp [Act.eval]) (by simp [Act.eval]) (HN5.out) (HU5.out.step (by first | exact Below.refl _ _ | exact below_drew _ _ | exact al _ _ | exact (al _ _).trans (below_drew _ _))) HLL.out (by have := HW5.out.size; simp; omega) ?_ | refine step_app_list rfl (.tmp 59) (.tmp 63) rfl wr.heap.size [⟨t, B, -1, v⟩] ((flt L).filter (rpT t)) (.slice (some ⟨w5.heap.size, 0, none⟩) 1 1) a5 c5 (by simp [Act.eval]) (by simp [Act.eval]) (row_one w5 ⟨t, B, -1, v⟩ wr.heap.size HW5.out.size) (HU5.out.step (by first | exact Below.refl _ _ | exact below_drew _ _ | exact al _ _ | exact (al _ _).trans (below_drew _ _))) HLL.out (by have := HW5.out.size; simp; omega) ?_); rintro v' w7 ho b7; obtain ⟨fa, fc, rfl⟩ := row_slice ho; have HO7 := Lib.hid ho; have HW7 := Lib.hid (show Below wr.heap.size wr w7 from by first | exact HW5.out.trans b7 | exact (HW5.out.alloc HW5.out.size _).trans b7); clear ho b7) | (go_simp; go_at_call 49; refine (become_n k _ _ fa fc _ ([⟨t, B, -1, v⟩] ++ (flt L).filter (rpT t)) (by simp) _ (HCr.out.step HW7.out) (ods_of_row rfl HO7.out) (by have := HLL.out; rw [List.length_append]; omega)).mono ?_; rintro e w8 ⟨rfl, hbel, hchg⟩; have HB8 := Lib.hid hbel; have HC8 := Lib.hid hchg; clear hbel hchg))
      all_goals go_wp2
      all_goals exact bodyPost_ret (v := .int .i64 0) (by simp [results, Try.results46, go_sem]) rfl (by rw [hm.out]; exact done_of HBr.out HX.out HW7.out HO7.out HB8.out HC8.out HE.out)
end Go.Proofs.Ytigpopemllamdaa
