/- Beliefs: an order is confirmed. -/
import Derived.Test.YtigpopemllamdaaAk
namespace Go.Proofs.Ytigpopemllamdaa
open Go.RowKit

theorem ods_take {w : World} {a : Option Addr} {n c : Nat} {L : List Od} (h : OdsAt w (.slice a n c) L) (i : Nat) (hi : i ≤ L.length) : OdsAt w (.slice a i c) (L.take i) := by
  obtain ⟨a2, c2, hv, h1, hm, hc⟩ := h
  obtain ⟨rfl, rfl, rfl⟩ : a = a2 ∧ n = L.length ∧ c = c2 := by simpa using hv
  have hl : (L.take i).length = i := by rw [List.length_take]; omega
  refine ⟨a, c, by rw [hl], by omega, by omega, fun hne => ?_⟩
  have hL : L ≠ [] := by intro e; rw [e] at hne; simp at hne
  obtain ⟨b, off, rfl, hx⟩ := hc hL
  refine ⟨b, off, rfl, fun j x hj => hx j x ?_⟩
  have hjl : j < (L.take i).length := (List.getElem?_eq_some_iff.1 hj).1
  rw [List.getElem?_take_of_lt (by omega)] at hj
  exact hj
theorem ods_drop {w : World} {b o n c m k : Nat} {L : List Od} (h : OdsAt w (.slice (some ⟨b, o, none⟩) n c) L) (hm : m ≤ L.length) (hk : k = n - m) : OdsAt w (.slice (if c = m then some ⟨b, o, none⟩ else some ⟨b, o + m * 4, none⟩) k (c - m)) (L.drop m) := by
  obtain ⟨a2, c2, hv, h1, hx9, hc⟩ := h
  obtain ⟨rfl, rfl, rfl⟩ : some (⟨b, o, none⟩ : Addr) = a2 ∧ n = L.length ∧ c = c2 := by simpa using hv
  have hl : (L.drop m).length = k := by rw [List.length_drop]; omega
  refine ⟨_, c - m, by rw [hl], by omega, by omega, fun hne => ?_⟩
  have hL : L ≠ [] := by intro e; rw [e] at hne; simp at hne
  have hcm : ¬ c = m := by
    intro e
    have : L.drop m = [] := List.drop_eq_nil_of_le (by omega)
    exact hne this
  obtain ⟨b2, off, e2, hx⟩ := hc hL
  obtain ⟨rfl, rfl⟩ : b = b2 ∧ o = off := by simpa using e2
  refine ⟨b, o + m * 4, by rw [if_neg hcm], fun j x hj => ?_⟩
  rw [List.getElem?_drop] at hj
  have := hx (m + j) x hj
  rw [show o + m * 4 + j * 4 = o + (m + j) * 4 by omega]
  exact this
theorem ods_new (W : World) (x : Od) (t : TypeId) (n : Nat) (hn : n = W.heap.size) : OdsAt (W.alloc (.cells #[.int .i64 x.a, .int .i64 x.b, .int .i64 x.c, .int .i64 x.d] t)) (.slice (some ⟨n, 0, none⟩) [x].length 1) [x] := by
  have hc := Cs.new W n #[.int .i64 x.a, .int .i64 x.b, .int .i64 x.c, .int .i64 x.d] t hn
  refine ⟨_, 1, rfl, by simp, by unfold maxLen; simp, fun _ => ⟨n, 0, rfl, fun i y hi => ?_⟩⟩
  have h0 : i = 0 := by have := (List.getElem?_eq_some_iff.1 hi).1; simpa using this
  subst h0
  obtain rfl : x = y := by simpa using hi
  exact ⟨hc.c 0 rfl, hc.c 1 rfl, hc.c 2 rfl, hc.c 3 rfl⟩
theorem done_of2 {k : Nat} {w w5 w6 : World} {M : List Od} {fa : Option Addr} {fc : Nat} {E : Int} (hk : k < w.heap.size) (h5 : Below w.heap.size w w5)
    (ho : w5.ownsRow w.heap.size 27 4 (.slice fa M.length fc) M.length (ocs M)) (hbel : Bel k w5.heap.size w6 (.slice fa M.length fc) M) (hc : Chg k w5 w6) (hE : E = 0) : Done k w E M (.returned (.int .i64 0)) w6 := by
  have ha := row_adr ho
  refine ⟨by rw [hE], (Chg.of h5).trans hc, fun _ => ⟨fa, fc, hbel.base h5.size, hc.ods (fun g o e h => by have := ha g o e; omega) (ods_of_row rfl ho), fun g o e => ha g o e⟩⟩
/-- The order that is confirmed. -/
def cfP (seq : Int) : Od → Bool := fun x => !stB x && decide (x.a = seq)
def cfS (o : Od) : Od → Bool := fun x => decide (o.a - 16 < x.a) && decide (o.b ≤ x.b)
def cfO (L : List Od) (i : Nat) : List Od := (flt (L.take i) ++ L.drop (i + 1)).filter (cfS (L.getD i zO)) ++ [{ L.getD i zO with c := -1 }]
def cfE (seq : Int) (L : List Od) : Int := match fsI (cfP seq) L 0 with
  | some _ => 0
  | none => 27
def cfM (seq : Int) (L : List Od) : List Od := match fsI (cfP seq) L 0 with
  | some i => cfO L i
  | none => []
set_option maxRecDepth 100000 in
set_option maxHeartbeats 8000000 in
theorem confirm_any (k : Nat) (v1 : Value) (sa : Option Addr) (sc : Nat) (L : List Od) (seq : Int) (w : World) (hC : Cs w k #[v1, .slice sa L.length sc]) (h : OdsAt w (.slice sa L.length sc) L) (h9 : L.length ≤ 300) (hb9 : ∀ x ∈ L, -1000 ≤ x.a ∧ x.a ≤ 1000000000) :
    Calls Try.prog 44 #[.pointer (some ⟨k, 0, none⟩), .int .i64 seq] w (Done k w (cfE seq L) (cfM seq L)) := by
  have HQ0 := Lib.hid (Cs.new w w.heap.size #[.int .i64 seq] 3 rfl)
  have HB0 := Lib.hid (al w (.cells #[.int .i64 seq] 3))
  have HL0 := Lib.hid (h.step HB0.out)
  have HC0 := Lib.hid (hC.step HB0.out)
  have H9 := Lib.hid h9
  have HX := Lib.hid hC.2.2
  have HV := Lib.hid hb9
  have c0 := HC0.out.c 0 rfl
  have c1 := HC0.out.c 1 rfl
  have cz := HC0.out.2.2
  clear hC h h9 hb9
  cases hf : fsI (cfP seq) L 0 with
  | none =>
    have HE := Lib.hid (show cfE seq L = 27 by unfold cfE; rw [hf])
    have HP := Lib.hid (show fsP (cfP seq) L = -1 by unfold fsP; rw [hf])
    clear hf
    go_enter Try.func44, Try.ntmps44
    go_wp2_with fail
    refine (index_any _ L 59 #[.pointer (some ⟨w.heap.size, 0, none⟩)] (cfP seq) _ HL0.out (confirm1_fits seq w.heap.size _ HQ0.out) eg59).mono ?_
    rintro e y1 ⟨rfl, b⟩
    rw [HP.out]
    have HB1 := Lib.hid (keep2 b HB0.out)
    clear b c0 c1 cz
    go_wp2
    exact bodyPost_ret (v := .int .i64 27) (by simp [results, Try.results44, go_sem]) rfl ⟨by rw [HE.out], Chg.of HB1.out, fun e => by rw [HE.out] at e; cases e⟩
  | some i =>
    have HE := Lib.hid (show cfE seq L = 0 by unfold cfE; rw [hf])
    have HM := Lib.hid (show cfM seq L = cfO L i by unfold cfM; rw [hf])
    have HP := Lib.hid (show fsP (cfP seq) L = i by unfold fsP; rw [hf])
    have hi : i < L.length := by have := (fsI_some.1 hf).2.1; omega
    clear hf
    go_enter Try.func44, Try.ntmps44
    go_wp2_with fail
    refine (index_any _ L 59 #[.pointer (some ⟨w.heap.size, 0, none⟩)] (cfP seq) _ HL0.out (confirm1_fits seq w.heap.size _ HQ0.out) eg59).mono ?_
    rintro e y1 ⟨rfl, b⟩
    rw [HP.out]
    have HB1 := Lib.hid (keep2 b HB0.out)
    have HL1 := Lib.hid (HL0.out.step b)
    have HC1 := Lib.hid (HC0.out.step b)
    clear b c0 c1 cz HL0 HC0 HQ0
    have c0 := HC1.out.c 0 rfl
    have c1 := HC1.out.c 1 rfl
    have cz := HC1.out.2.2
    obtain ⟨a1, d1, hv1, hcap, -, hcs1⟩ := HL1.out
    obtain ⟨rfl, rfl⟩ : sa = a1 ∧ sc = d1 := by simpa using hv1
    obtain ⟨b1, o1, rfl, hx1⟩ := hcs1 (by intro e; rw [e] at hi; simp at hi)
    obtain ⟨z0, z1, z2, z3⟩ := hx1 i _ (od_get hi)
    have yz : b1 < y1.heap.size := World.block_lt_of_cell? _ _ z0
    have HVo := Lib.hid (HV.out (L.getD i zO) (List.mem_of_getElem? (od_get hi)))
    have HOi := Lib.hid (show cfO L i = (flt (L.take i) ++ L.drop (i + 1)).filter (cfS (L.getD i zO)) ++ [{ L.getD i zO with c := -1 }] from rfl)
    clear hcs1 hx1 hv1
    generalize L.getD i zO = o at *
    have HO2 := Lib.hid (Cs.new y1 y1.heap.size #[.int .i64 o.a, .int .i64 o.b, .int .i64 o.c, .int .i64 o.d] 27 rfl)
    have HA2 := Lib.hid (al y1 (.cells #[.int .i64 o.a, .int .i64 o.b, .int .i64 o.c, .int .i64 o.d] 27))
    have HB2 := Lib.hid (keep2 HA2.out HB1.out)
    have HL2 := Lib.hid (HL1.out.step HA2.out)
    have HC2 := Lib.hid (HC1.out.step HA2.out)
    have d0 := HC2.out.c 0 rfl
    have d1 := HC2.out.c 1 rfl
    have dz := HC2.out.2.2
    have t1 : (i : Int) < (L.length : Int) := by omega
    have t2 : (i : Int) ≤ (sc : Int) := by omega
    have t3 : i ≤ sc := by omega
    go_wp2_with fail
    refine (those_any _ (L.take i) 62 #[] (fun x => !stB x) _ (ods_take HL2.out i (by omega)) (confirm2_fits _) (by have := H9.out; rw [List.length_take]; omega) eg62).mono ?_
    rintro e y3 ⟨u3, rfl, hu3, b⟩
    obtain ⟨a3, c3, rfl⟩ := row_slice hu3
    have HU3 := Lib.hid (ods_of_row rfl hu3)
    have HO3 := Lib.hid (HO2.out.step b)
    have HB3 := Lib.hid (keep2 b HB2.out)
    have HL3 := Lib.hid (HL2.out.step b)
    have HC3 := Lib.hid (HC2.out.step b)
    clear hu3 b c0 c1 cz d0 d1 dz z0 z1 z2 z3 yz HO2 HB2 HL2 HC2 HL1 HC1 HA2
    have c0 := HC3.out.c 0 rfl
    have c1 := HC3.out.c 1 rfl
    have cz := HC3.out.2.2
    have t4 : (i : Int) + 1 ≤ (sc : Int) := by omega
    have t5 : i + 1 ≤ sc := by omega
    have t6 : ((i : Int) + 1).toNat = i + 1 := by omega
    have t7 : (i : Int) + 1 ≤ (L.length : Int) := by omega
    have t8 : i + 1 ≤ L.length := by omega
    have t9 : wrap64 ((i : Int) + 1) = (i : Int) + 1 := IntWalk.wrap64_in _ (by have := H9.out; omega)
    by_cases hs : sc = i + 1
    · subst hs
      have hl0 : L.length - (i + 1) = 0 := by omega
      have HD := Lib.hid (show OdsAt y3 (.slice (some ⟨b1, o1, none⟩) 0 0) (L.drop (i + 1)) from (by have h := ods_drop HL3.out (m := i + 1) (k := L.length - (i + 1)) (by omega) rfl; rw [if_pos rfl, Nat.sub_self, hl0] at h; exact h))
      go_wp2_with fail
      refine (concat_any y3.heap.size 0 a3 (some ⟨b1, o1, none⟩) c3 0 (flt (L.take i)) (L.drop (i + 1)) _ ⟨(Cs.new _ _ _ _ rfl).c 0 rfl, by rw [List.length_drop, hl0]; exact (Cs.new _ _ _ _ rfl).c 1 rfl⟩ (HU3.out.step (al _ _)) (by rw [List.length_drop, hl0]; exact HD.out.step (al _ _)) (by have := H9.out; have := flt_len (fun x => !stB x) L i; unfold flt; omega) (by have := H9.out; rw [List.length_drop]; omega)).mono ?_
      rintro e y4 ⟨u4, rfl, hu4, b⟩
      have HU4 := Lib.hid (ods_of_row rfl hu4)
      have HO4 := Lib.hid (HO3.out.step (keep2 b (al _ _)))
      have HB4 := Lib.hid (keep2 (keep2 b (al _ _)) HB3.out)
      have HC4 := Lib.hid (HC3.out.step (keep2 b (al _ _)))
      have HLC := Lib.hid (show (flt (L.take i) ++ L.drop (i + 1)).length ≤ 700 by have := H9.out; have := flt_len (fun x => !stB x) L i; rw [List.length_append, List.length_drop]; unfold flt; omega)
      clear hu4 b c0 c1 cz HO3 HB3 HC3
      go_wp2_with fail
      refine (those_any u4 (flt (L.take i) ++ L.drop (i + 1)) 64 #[.pointer (some ⟨y1.heap.size, 0, none⟩)] (cfS o) _ HU4.out (confirm3_fits o _ HVo.out _ HO4.out) (by have := HLC.out; omega) eg64).mono ?_
      rintro e y5 ⟨u5, rfl, hu5, b⟩
      have HO5 := Lib.hid (HO4.out.step b)
      have HB5 := Lib.hid (keep2 b HB4.out)
      have HC5 := Lib.hid (HC4.out.step b)
      have HL5 := Lib.hid (show ((flt (L.take i) ++ L.drop (i + 1)).filter (cfS o)).length ≤ 700 from Nat.le_trans (List.length_filter_le _ _) HLC.out)
      generalize (flt (L.take i) ++ L.drop (i + 1)).filter (cfS o) = S at *
      have hne : k ≠ y1.heap.size := fun e => by have := HX.out; have := HB1.out.size; omega
      have hw1 : w.heap.size ≤ y1.heap.size := HB1.out.size
      have HS := Lib.hid (Cs.set HO5.out 2 (by simp) (.int .i64 (-1)) (vs' := #[.int .i64 o.a, .int .i64 o.b, .int .i64 (-1), .int .i64 o.d]) rfl)
      have HB6 := Lib.hid (HB5.out.setCell (p := ⟨y1.heap.size, 2, none⟩) hw1 (.int .i64 (-1)))
      have HC6 := Lib.hid (HC5.out.other hne 2 (.int .i64 (-1)))
      have HR6 := Lib.hid (row_base (ownsRow_setCell_below hu5 (a := ⟨y1.heap.size, 2, none⟩) HO4.out.2.2 (.int .i64 (-1))) (b2 := w.heap.size) HB4.out.size)
      have x2 := HO5.out.c 2 rfl
      have f2 := HO5.out.f 2 (by simp)
      have xz := HO5.out.2.2
      have s0 := HS.out.c 0 rfl
      have s1 := HS.out.c 1 rfl
      have s2 := HS.out.c 2 rfl
      have s3 := HS.out.c 3 rfl
      have sz := HS.out.2.2
      clear hu5 b HO5 HB5 HC5 HO4 HB4 HC4
      obtain ⟨v', w7, hq, ho, hb⟩ := app_list ((y5.setCell ⟨y1.heap.size, 2, none⟩ (.int .i64 (-1))).alloc (.cells #[.int .i64 o.a, .int .i64 o.b, .int .i64 (-1), .int .i64 o.d] 27)) w.heap.size u5 S [{ a := o.a, b := o.b, c := -1, d := o.d }] (row_step HR6.out (al _ _)) (some ⟨y5.heap.size, 0, none⟩) 1 (ods_new _ { a := o.a, b := o.b, c := -1, d := o.d } 27 _ (by simp)) (by have := HL5.out; simp; omega) (by have := HB6.out.size; simp at this ⊢; omega) 23
      obtain ⟨fa, fc, rfl⟩ := row_slice ho
      have HQ := Lib.hid hq
      have HO7 := Lib.hid ho
      have HB7 := Lib.hid ((HB6.out.alloc HB6.out.size (.cells #[.int .i64 o.a, .int .i64 o.b, .int .i64 (-1), .int .i64 o.d] 27)).trans hb)
      have HC7 := Lib.hid (show Cs w7 k #[v1, .slice (some ⟨b1, o1, none⟩) L.length (i + 1)] from by
        have hx := HC6.out.alloc (.cells #[.int .i64 o.a, .int .i64 o.b, .int .i64 (-1), .int .i64 o.d] 27)
        have hk := HX.out
        exact ⟨fun j hj => (World.cell?_of_block (a := ⟨k, j, none⟩) (hb.block k hk)).trans (hx.1 j hj), fun j hj => (World.frozen?_of_block (a := ⟨k, j, none⟩) (hb.block k hk)).trans (hx.2.1 j hj), Nat.lt_of_lt_of_le hx.2.2 hb.size⟩)
      clear hq ho hb
      have HMM := Lib.hid (HM.out.trans HOi.out)
      go_wp2_with (at_builtin; refine Lib.wpList_append_run _ rfl _ _ _ _ rfl _ _ rfl rfl _ _ HQ.out ?_)
      refine (become_n k v1 _ fa fc _ (S ++ [{ a := o.a, b := o.b, c := -1, d := o.d }]) (by simp) _ HC7.out (ods_of_row rfl HO7.out) (by have := HL5.out; simp; omega)).mono ?_
      rintro e w8 ⟨rfl, hbel, hchg⟩
      go_wp2
      exact bodyPost_ret (v := .int .i64 0) (by simp [results, Try.results44, go_sem]) rfl (by rw [HMM.out]; exact done_of2 HX.out HB7.out HO7.out hbel hchg HE.out)
    · have hs2 : ¬ i + 1 = sc := fun e => hs e.symm
      have HD := Lib.hid (show OdsAt y3 (.slice (some ⟨b1, o1 + (i + 1) * 4, none⟩) (L.length - (i + 1)) (sc - (i + 1))) (L.drop (i + 1)) from (by have h := ods_drop HL3.out (m := i + 1) (k := L.length - (i + 1)) (by omega) rfl; rw [if_neg hs] at h; exact h))
      go_wp2_with fail
      refine (concat_any y3.heap.size 0 a3 (some ⟨b1, o1 + (i + 1) * 4, none⟩) c3 (sc - (i + 1)) (flt (L.take i)) (L.drop (i + 1)) _ ⟨(Cs.new _ _ _ _ rfl).c 0 rfl, by rw [List.length_drop]; exact (Cs.new _ _ _ _ rfl).c 1 rfl⟩ (HU3.out.step (al _ _)) (by rw [List.length_drop]; exact HD.out.step (al _ _)) (by have := H9.out; have := flt_len (fun x => !stB x) L i; unfold flt; omega) (by have := H9.out; rw [List.length_drop]; omega)).mono ?_
      rintro e y4 ⟨u4, rfl, hu4, b⟩
      have HU4 := Lib.hid (ods_of_row rfl hu4)
      have HO4 := Lib.hid (HO3.out.step (keep2 b (al _ _)))
      have HB4 := Lib.hid (keep2 (keep2 b (al _ _)) HB3.out)
      have HC4 := Lib.hid (HC3.out.step (keep2 b (al _ _)))
      have HLC := Lib.hid (show (flt (L.take i) ++ L.drop (i + 1)).length ≤ 700 by have := H9.out; have := flt_len (fun x => !stB x) L i; rw [List.length_append, List.length_drop]; unfold flt; omega)
      clear hu4 b c0 c1 cz HO3 HB3 HC3
      go_wp2_with fail
      refine (those_any u4 (flt (L.take i) ++ L.drop (i + 1)) 64 #[.pointer (some ⟨y1.heap.size, 0, none⟩)] (cfS o) _ HU4.out (confirm3_fits o _ HVo.out _ HO4.out) (by have := HLC.out; omega) eg64).mono ?_
      rintro e y5 ⟨u5, rfl, hu5, b⟩
      have HO5 := Lib.hid (HO4.out.step b)
      have HB5 := Lib.hid (keep2 b HB4.out)
      have HC5 := Lib.hid (HC4.out.step b)
      have HL5 := Lib.hid (show ((flt (L.take i) ++ L.drop (i + 1)).filter (cfS o)).length ≤ 700 from Nat.le_trans (List.length_filter_le _ _) HLC.out)
      generalize (flt (L.take i) ++ L.drop (i + 1)).filter (cfS o) = S at *
      have hne : k ≠ y1.heap.size := fun e => by have := HX.out; have := HB1.out.size; omega
      have hw1 : w.heap.size ≤ y1.heap.size := HB1.out.size
      have HS := Lib.hid (Cs.set HO5.out 2 (by simp) (.int .i64 (-1)) (vs' := #[.int .i64 o.a, .int .i64 o.b, .int .i64 (-1), .int .i64 o.d]) rfl)
      have HB6 := Lib.hid (HB5.out.setCell (p := ⟨y1.heap.size, 2, none⟩) hw1 (.int .i64 (-1)))
      have HC6 := Lib.hid (HC5.out.other hne 2 (.int .i64 (-1)))
      have HR6 := Lib.hid (row_base (ownsRow_setCell_below hu5 (a := ⟨y1.heap.size, 2, none⟩) HO4.out.2.2 (.int .i64 (-1))) (b2 := w.heap.size) HB4.out.size)
      have x2 := HO5.out.c 2 rfl
      have f2 := HO5.out.f 2 (by simp)
      have xz := HO5.out.2.2
      have s0 := HS.out.c 0 rfl
      have s1 := HS.out.c 1 rfl
      have s2 := HS.out.c 2 rfl
      have s3 := HS.out.c 3 rfl
      have sz := HS.out.2.2
      clear hu5 b HO5 HB5 HC5 HO4 HB4 HC4
      obtain ⟨v', w7, hq, ho, hb⟩ := app_list ((y5.setCell ⟨y1.heap.size, 2, none⟩ (.int .i64 (-1))).alloc (.cells #[.int .i64 o.a, .int .i64 o.b, .int .i64 (-1), .int .i64 o.d] 27)) w.heap.size u5 S [{ a := o.a, b := o.b, c := -1, d := o.d }] (row_step HR6.out (al _ _)) (some ⟨y5.heap.size, 0, none⟩) 1 (ods_new _ { a := o.a, b := o.b, c := -1, d := o.d } 27 _ (by simp)) (by have := HL5.out; simp; omega) (by have := HB6.out.size; simp at this ⊢; omega) 23
      obtain ⟨fa, fc, rfl⟩ := row_slice ho
      have HQ := Lib.hid hq
      have HO7 := Lib.hid ho
      have HB7 := Lib.hid ((HB6.out.alloc HB6.out.size (.cells #[.int .i64 o.a, .int .i64 o.b, .int .i64 (-1), .int .i64 o.d] 27)).trans hb)
      have HC7 := Lib.hid (show Cs w7 k #[v1, .slice (some ⟨b1, o1, none⟩) L.length sc] from by
        have hx := HC6.out.alloc (.cells #[.int .i64 o.a, .int .i64 o.b, .int .i64 (-1), .int .i64 o.d] 27)
        have hk := HX.out
        exact ⟨fun j hj => (World.cell?_of_block (a := ⟨k, j, none⟩) (hb.block k hk)).trans (hx.1 j hj), fun j hj => (World.frozen?_of_block (a := ⟨k, j, none⟩) (hb.block k hk)).trans (hx.2.1 j hj), Nat.lt_of_lt_of_le hx.2.2 hb.size⟩)
      clear hq ho hb
      have HMM := Lib.hid (HM.out.trans HOi.out)
      go_wp2_with (at_builtin; refine Lib.wpList_append_run _ rfl _ _ _ _ rfl _ _ rfl rfl _ _ HQ.out ?_)
      refine (become_n k v1 _ fa fc _ (S ++ [{ a := o.a, b := o.b, c := -1, d := o.d }]) (by simp) _ HC7.out (ods_of_row rfl HO7.out) (by have := HL5.out; simp; omega)).mono ?_
      rintro e w8 ⟨rfl, hbel, hchg⟩
      go_wp2
      exact bodyPost_ret (v := .int .i64 0) (by simp [results, Try.results44, go_sem]) rfl (by rw [HMM.out]; exact done_of2 HX.out HB7.out HO7.out hbel hchg HE.out)
end Go.Proofs.Ytigpopemllamdaa
