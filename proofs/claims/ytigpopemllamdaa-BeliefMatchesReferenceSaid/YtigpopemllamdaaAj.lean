/- Beliefs: an order is sent. -/
import Derived.Test.YtigpopemllamdaaAi
namespace Go.Proofs.Ytigpopemllamdaa
open Go.RowKit

/-- An order. -/
def isO (o : Od) : Bool := inr o.a 0 1000000000 && inr o.b 0 1000000000 && inr o.c 0 1000000000 && inr o.d 0 15
/-- What sending answers. -/
def sdE (L : List Od) (o : Od) : Int :=
  if (!isO o || L.any fun x => decide (o.a ≤ x.a)) = true then 1
  else if (L.any fun x => decide (o.b < x.b)) = true then 23
  else if (decide ((flt L).length = 8) || decide (L.length = 20)) = true then 2
  else 0
/-- What a change leaves: records, if it says so. -/
def Done (k : Nat) (w : World) (E : Int) (M : List Od) (e : Ending) (w' : World) : Prop :=
  e = .returned (.int .i64 E) ∧ Chg k w w' ∧ (E = 0 → ∃ (fa : Option Addr) (fc : Nat), Bel k w.heap.size w' (.slice fa M.length fc) M ∧ OdsAt w' (.slice fa M.length fc) M ∧ ∀ g o, fa = some ⟨g, o, none⟩ → w.heap.size ≤ g)
theorem step_app_od {ops : Array Oper} {op : Oper} {a : Act} {W : World} {K : Act → World → Prop} {Q : Exit → Act → World → Prop} {E : Prop} (hgd : op.guard = none) (s x : Operand)
    (ho : op.op = .call { callee := .builtin .append, args := #[s, x], argTypes := #[23, 23] }) (B N : Nat) (L : List Od) (o : Od) (u : Value) (hs : a.eval s = u) (hx : a.eval x = .slice (some ⟨N, 0, none⟩) 1 1)
    (hrow : W.ownsRow B 27 4 u L.length (ocs L)) (hcs : Cs W N #[.int .i64 o.a, .int .i64 o.b, .int .i64 o.c, .int .i64 o.d]) (h9 : L.length ≤ 1000) (hB : B ≤ W.heap.size)
    (h : ∀ v' w5, w5.ownsRow B 27 4 v' (L ++ [o]).length (ocs (L ++ [o])) → Below B W w5 → K (a.put op.dst v') w5) :
    if Region.wanted op (yielded ops a.tmps) = true then Oper.wp Try.prog op a W K Q else E := by
  have hw : Region.wanted op (yielded ops a.tmps) = true := by simp [Region.wanted, hgd]
  obtain ⟨i0, hi, hz0, hz1, hz2⟩ := info_parts od_info
  obtain ⟨v', w5, hr, ho5, hg5, -⟩ := run_append_own (P := Try.prog) (w := W) B 23 op.type 27 i0 _ 4 32 Try.underlying23 hi hz0 hz1 hz2 rfl (by decide) u L.length (ocs L) hrow ⟨N, 0, none⟩ 1 1 [.int .i64 o.a, .int .i64 o.b, .int .i64 o.c, .int .i64 o.d] rfl
    (fun j v hj => by
      rw [Go.WideShapes.add_plain, Nat.zero_add]
      exact hcs.c j (by rw [← Array.getElem?_toList]; exact hj)) (by simp [Value.oneCell']) (by unfold maxLen; omega) (by omega) hB
  rw [if_pos hw]
  unfold Oper.wp execOp
  simp only [ho, resolve, invoke, builtin, Sem.run_bind, Sem.run_pure, Result.andThen_ok, List.map_toArray, List.map_cons, List.map_nil, hs, hx, hr]
  refine h v' w5 ?_ ?_
  · rw [List.length_append, ocs_app, ocs_one]; exact ho5
  · refine (Below.refl B W).grown hg5 hB fun g e => ?_
    rcases hrow.2 with ⟨rfl, -⟩ | ⟨g', cap, cur, rfl, h1, -⟩
    · cases e
    · cases e; exact h1
theorem row_base {w : World} {base b2 e s : Nat} {v : Value} {n : Nat} {xs : List Value} (h : w.ownsRow base e s v n xs) (hb : b2 ≤ base) : w.ownsRow b2 e s v n xs := by
  refine ⟨h.1, ?_⟩
  rcases h.2 with h0 | ⟨g, cap, cur, h1, h2, h3, h4⟩
  · exact .inl h0
  · exact .inr ⟨g, cap, cur, h1, Nat.le_trans hb h2, h3, h4⟩
set_option maxRecDepth 100000 in
set_option maxHeartbeats 8000000 in
theorem become_n (k : Nat) (v1 v2 : Value) (sa : Option Addr) (sc n : Nat) (L : List Od) (hn : n = L.length) (w : World) (hC : Cs w k #[v1, v2]) (h : OdsAt w (.slice sa L.length sc) L) (h9 : L.length ≤ 100000) :
    Calls Try.prog 49 #[.pointer (some ⟨k, 0, none⟩), .slice sa n sc] w fun e w' => e = .returned (.tuple #[]) ∧ Bel k w.heap.size w' (.slice sa L.length sc) L ∧ Chg k w w' := by
  subst hn
  exact become_any k v1 v2 sa sc L w hC h h9
theorem Bel.base {k B B2 : Nat} {w : World} {v : Value} {L : List Od} (h : Bel k B w v L) (hb : B2 ≤ B) : Bel k B2 w v L := by
  obtain ⟨ua, uc, h1, h2, h3⟩ := h
  exact ⟨ua, uc, h1, h2, fun g o e => Nat.le_trans hb (h3 g o e)⟩
theorem done_of {k : Nat} {w wq w5 w6 : World} {M : List Od} {fa : Option Addr} {fc : Nat} {E : Int} (hb : Below w.heap.size w wq) (hk : k < w.heap.size) (h5 : Below wq.heap.size wq w5)
    (ho : w5.ownsRow wq.heap.size 27 4 (.slice fa M.length fc) M.length (ocs M)) (hbel : Bel k w5.heap.size w6 (.slice fa M.length fc) M) (hc : Chg k w5 w6) (hE : E = 0) : Done k w E M (.returned (.int .i64 0)) w6 := by
  have hs := hb.size
  have ha := row_adr ho
  refine ⟨by rw [hE], (Chg.of (keep2 h5 hb)).trans hc, fun _ => ⟨fa, fc, hbel.base (Nat.le_trans hs h5.size), hc.ods (fun g o e h => by have := ha g o e; omega) (ods_of_row rfl ho), fun g o e => Nat.le_trans hs (ha g o e)⟩⟩
set_option maxRecDepth 100000 in
set_option maxHeartbeats 8000000 in
theorem send_any (k : Nat) (v1 : Value) (sa : Option Addr) (sc : Nat) (L : List Od) (o : Od) (w : World) (hC : Cs w k #[v1, .slice sa L.length sc]) (h : OdsAt w (.slice sa L.length sc) L) (h9 : L.length ≤ 1000) :
    Calls Try.prog 39 #[.pointer (some ⟨k, 0, none⟩), .agg #[.int .i64 o.a, .int .i64 o.b, .int .i64 o.c, .int .i64 o.d]] w (Done k w (sdE L o) (L ++ [o])) := by
  have HO0 := Lib.hid (Cs.new w w.heap.size #[.int .i64 o.a, .int .i64 o.b, .int .i64 o.c, .int .i64 o.d] 27 rfl)
  have HB0 := Lib.hid (al w (.cells #[.int .i64 o.a, .int .i64 o.b, .int .i64 o.c, .int .i64 o.d] 27))
  have HL0 := Lib.hid (h.step HB0.out)
  have HC0 := Lib.hid (hC.step HB0.out)
  have H9 := Lib.hid h9
  have HX := Lib.hid hC.2.2
  clear hC h h9
  have o0 := HO0.out.c 0 rfl
  have o1 := HO0.out.c 1 rfl
  have o2 := HO0.out.c 2 rfl
  have o3 := HO0.out.c 3 rfl
  have oz := HO0.out.2.2
  have c0 := HC0.out.c 0 rfl
  have c1 := HC0.out.c 1 rfl
  have cz := HC0.out.2.2
  go_enter Try.func39, Try.ntmps39
  cases ra : inr o.a 0 1000000000
  · go_wp2_with fail
    refine (within_any _ _ _ _).mono ?_
    rintro e y0 ⟨rfl, b⟩
    rw [ra]
    have HO1 := Lib.hid (HO0.out.step b)
    have HL1 := Lib.hid (HL0.out.step b)
    have HC1 := Lib.hid (HC0.out.step b)
    have HB1 := Lib.hid (keep2 b HB0.out)
    clear b o0 o1 o2 o3 oz c0 c1 cz HO0 HL0 HC0 HB0
    have o0 := HO1.out.c 0 rfl
    have o1 := HO1.out.c 1 rfl
    have o2 := HO1.out.c 2 rfl
    have o3 := HO1.out.c 3 rfl
    have oz := HO1.out.2.2
    have c0 := HC1.out.c 0 rfl
    have c1 := HC1.out.c 1 rfl
    have cz := HC1.out.2.2
    have HE := Lib.hid (show sdE L o = 1 from by unfold sdE isO; rw [ra]; simp)
    go_wp2
    exact bodyPost_ret (v := .int .i64 1) (by simp [results, Try.results39, go_sem]) rfl ⟨by rw [HE.out], Chg.of HB1.out, fun e => by rw [HE.out] at e; cases e⟩
  go_wp2_with fail
  refine (within_any _ _ _ _).mono ?_
  rintro e y0 ⟨rfl, b⟩
  rw [ra]
  have HO1 := Lib.hid (HO0.out.step b)
  have HL1 := Lib.hid (HL0.out.step b)
  have HC1 := Lib.hid (HC0.out.step b)
  have HB1 := Lib.hid (keep2 b HB0.out)
  clear b o0 o1 o2 o3 oz c0 c1 cz HO0 HL0 HC0 HB0
  have o0 := HO1.out.c 0 rfl
  have o1 := HO1.out.c 1 rfl
  have o2 := HO1.out.c 2 rfl
  have o3 := HO1.out.c 3 rfl
  have oz := HO1.out.2.2
  have c0 := HC1.out.c 0 rfl
  have c1 := HC1.out.c 1 rfl
  have cz := HC1.out.2.2
  cases rb : inr o.b 0 1000000000
  · go_wp2_with fail
    refine (within_any _ _ _ _).mono ?_
    rintro e y1 ⟨rfl, b⟩
    rw [rb]
    have HO2 := Lib.hid (HO1.out.step b)
    have HL2 := Lib.hid (HL1.out.step b)
    have HC2 := Lib.hid (HC1.out.step b)
    have HB2 := Lib.hid (keep2 b HB1.out)
    clear b o0 o1 o2 o3 oz c0 c1 cz HO1 HL1 HC1 HB1
    have o0 := HO2.out.c 0 rfl
    have o1 := HO2.out.c 1 rfl
    have o2 := HO2.out.c 2 rfl
    have o3 := HO2.out.c 3 rfl
    have oz := HO2.out.2.2
    have c0 := HC2.out.c 0 rfl
    have c1 := HC2.out.c 1 rfl
    have cz := HC2.out.2.2
    have HE := Lib.hid (show sdE L o = 1 from by unfold sdE isO; rw [ra, rb]; simp)
    go_wp2
    exact bodyPost_ret (v := .int .i64 1) (by simp [results, Try.results39, go_sem]) rfl ⟨by rw [HE.out], Chg.of HB2.out, fun e => by rw [HE.out] at e; cases e⟩
  go_wp2_with fail
  refine (within_any _ _ _ _).mono ?_
  rintro e y1 ⟨rfl, b⟩
  rw [rb]
  have HO2 := Lib.hid (HO1.out.step b)
  have HL2 := Lib.hid (HL1.out.step b)
  have HC2 := Lib.hid (HC1.out.step b)
  have HB2 := Lib.hid (keep2 b HB1.out)
  clear b o0 o1 o2 o3 oz c0 c1 cz HO1 HL1 HC1 HB1
  have o0 := HO2.out.c 0 rfl
  have o1 := HO2.out.c 1 rfl
  have o2 := HO2.out.c 2 rfl
  have o3 := HO2.out.c 3 rfl
  have oz := HO2.out.2.2
  have c0 := HC2.out.c 0 rfl
  have c1 := HC2.out.c 1 rfl
  have cz := HC2.out.2.2
  cases rc : inr o.c 0 1000000000
  · go_wp2_with fail
    refine (within_any _ _ _ _).mono ?_
    rintro e y2 ⟨rfl, b⟩
    rw [rc]
    have HO3 := Lib.hid (HO2.out.step b)
    have HL3 := Lib.hid (HL2.out.step b)
    have HC3 := Lib.hid (HC2.out.step b)
    have HB3 := Lib.hid (keep2 b HB2.out)
    clear b o0 o1 o2 o3 oz c0 c1 cz HO2 HL2 HC2 HB2
    have o0 := HO3.out.c 0 rfl
    have o1 := HO3.out.c 1 rfl
    have o2 := HO3.out.c 2 rfl
    have o3 := HO3.out.c 3 rfl
    have oz := HO3.out.2.2
    have c0 := HC3.out.c 0 rfl
    have c1 := HC3.out.c 1 rfl
    have cz := HC3.out.2.2
    have HE := Lib.hid (show sdE L o = 1 from by unfold sdE isO; rw [ra, rb, rc]; simp)
    go_wp2
    exact bodyPost_ret (v := .int .i64 1) (by simp [results, Try.results39, go_sem]) rfl ⟨by rw [HE.out], Chg.of HB3.out, fun e => by rw [HE.out] at e; cases e⟩
  go_wp2_with fail
  refine (within_any _ _ _ _).mono ?_
  rintro e y2 ⟨rfl, b⟩
  rw [rc]
  have HO3 := Lib.hid (HO2.out.step b)
  have HL3 := Lib.hid (HL2.out.step b)
  have HC3 := Lib.hid (HC2.out.step b)
  have HB3 := Lib.hid (keep2 b HB2.out)
  clear b o0 o1 o2 o3 oz c0 c1 cz HO2 HL2 HC2 HB2
  have o0 := HO3.out.c 0 rfl
  have o1 := HO3.out.c 1 rfl
  have o2 := HO3.out.c 2 rfl
  have o3 := HO3.out.c 3 rfl
  have oz := HO3.out.2.2
  have c0 := HC3.out.c 0 rfl
  have c1 := HC3.out.c 1 rfl
  have cz := HC3.out.2.2
  cases rd : inr o.d 0 15
  · go_wp2_with fail
    refine (within_any _ _ _ _).mono ?_
    rintro e y3 ⟨rfl, b⟩
    rw [rd]
    have HO4 := Lib.hid (HO3.out.step b)
    have HL4 := Lib.hid (HL3.out.step b)
    have HC4 := Lib.hid (HC3.out.step b)
    have HB4 := Lib.hid (keep2 b HB3.out)
    clear b o0 o1 o2 o3 oz c0 c1 cz HO3 HL3 HC3 HB3
    have o0 := HO4.out.c 0 rfl
    have o1 := HO4.out.c 1 rfl
    have o2 := HO4.out.c 2 rfl
    have o3 := HO4.out.c 3 rfl
    have oz := HO4.out.2.2
    have c0 := HC4.out.c 0 rfl
    have c1 := HC4.out.c 1 rfl
    have cz := HC4.out.2.2
    have HE := Lib.hid (show sdE L o = 1 from by unfold sdE isO; rw [ra, rb, rc, rd]; simp)
    go_wp2
    exact bodyPost_ret (v := .int .i64 1) (by simp [results, Try.results39, go_sem]) rfl ⟨by rw [HE.out], Chg.of HB4.out, fun e => by rw [HE.out] at e; cases e⟩
  go_wp2_with fail
  refine (within_any _ _ _ _).mono ?_
  rintro e y3 ⟨rfl, b⟩
  rw [rd]
  have HO4 := Lib.hid (HO3.out.step b)
  have HL4 := Lib.hid (HL3.out.step b)
  have HC4 := Lib.hid (HC3.out.step b)
  have HB4 := Lib.hid (keep2 b HB3.out)
  clear b o0 o1 o2 o3 oz c0 c1 cz HO3 HL3 HC3 HB3
  have o0 := HO4.out.c 0 rfl
  have o1 := HO4.out.c 1 rfl
  have o2 := HO4.out.c 2 rfl
  have o3 := HO4.out.c 3 rfl
  have oz := HO4.out.2.2
  have c0 := HC4.out.c 0 rfl
  have c1 := HC4.out.c 1 rfl
  have cz := HC4.out.2.2
  have HIO := Lib.hid (show isO o = true by unfold isO; rw [ra, rb, rc, rd]; rfl)
  clear ra rb rc rd
  cases q1 : L.any (fun x => decide (o.a ≤ x.a))
  rotate_left
  · go_wp2_with fail
    refine (contains_f _ L 54 #[.pointer (some ⟨w.heap.size, 0, none⟩)] _ _ HL4.out (send1_fits o w.heap.size _ HO4.out) eg54).mono ?_
    rintro e y4 ⟨rfl, b⟩
    rw [q1]
    have HO5 := Lib.hid (HO4.out.step b)
    have HL5 := Lib.hid (HL4.out.step b)
    have HC5 := Lib.hid (HC4.out.step b)
    have HB5 := Lib.hid (keep2 b HB4.out)
    clear b o0 o1 o2 o3 oz c0 c1 cz HO4 HL4 HC4 HB4
    have o0 := HO5.out.c 0 rfl
    have o1 := HO5.out.c 1 rfl
    have o2 := HO5.out.c 2 rfl
    have o3 := HO5.out.c 3 rfl
    have oz := HO5.out.2.2
    have c0 := HC5.out.c 0 rfl
    have c1 := HC5.out.c 1 rfl
    have cz := HC5.out.2.2
    have HE := Lib.hid (show sdE L o = 1 from by unfold sdE; rw [HIO.out, q1]; simp)
    go_wp2
    exact bodyPost_ret (v := .int .i64 1) (by simp [results, Try.results39, go_sem]) rfl ⟨by rw [HE.out], Chg.of HB5.out, fun e => by rw [HE.out] at e; cases e⟩
  go_wp2_with fail
  refine (contains_f _ L 54 #[.pointer (some ⟨w.heap.size, 0, none⟩)] _ _ HL4.out (send1_fits o w.heap.size _ HO4.out) eg54).mono ?_
  rintro e y4 ⟨rfl, b⟩
  rw [q1]
  have HO5 := Lib.hid (HO4.out.step b)
  have HL5 := Lib.hid (HL4.out.step b)
  have HC5 := Lib.hid (HC4.out.step b)
  have HB5 := Lib.hid (keep2 b HB4.out)
  clear b o0 o1 o2 o3 oz c0 c1 cz HO4 HL4 HC4 HB4
  have o0 := HO5.out.c 0 rfl
  have o1 := HO5.out.c 1 rfl
  have o2 := HO5.out.c 2 rfl
  have o3 := HO5.out.c 3 rfl
  have oz := HO5.out.2.2
  have c0 := HC5.out.c 0 rfl
  have c1 := HC5.out.c 1 rfl
  have cz := HC5.out.2.2
  cases q2 : L.any (fun x => decide (o.b < x.b))
  rotate_left
  · go_wp2_with fail
    refine (contains_f _ L 55 #[.pointer (some ⟨w.heap.size, 0, none⟩)] _ _ HL5.out (send2_fits o w.heap.size _ HO5.out) eg55).mono ?_
    rintro e y5 ⟨rfl, b⟩
    rw [q2]
    have HO6 := Lib.hid (HO5.out.step b)
    have HL6 := Lib.hid (HL5.out.step b)
    have HC6 := Lib.hid (HC5.out.step b)
    have HB6 := Lib.hid (keep2 b HB5.out)
    clear b o0 o1 o2 o3 oz c0 c1 cz HO5 HL5 HC5 HB5
    have o0 := HO6.out.c 0 rfl
    have o1 := HO6.out.c 1 rfl
    have o2 := HO6.out.c 2 rfl
    have o3 := HO6.out.c 3 rfl
    have oz := HO6.out.2.2
    have c0 := HC6.out.c 0 rfl
    have c1 := HC6.out.c 1 rfl
    have cz := HC6.out.2.2
    have HE := Lib.hid (show sdE L o = 23 from by unfold sdE; rw [HIO.out, q1, q2]; simp)
    go_wp2
    exact bodyPost_ret (v := .int .i64 23) (by simp [results, Try.results39, go_sem]) rfl ⟨by rw [HE.out], Chg.of HB6.out, fun e => by rw [HE.out] at e; cases e⟩
  go_wp2_with fail
  refine (contains_f _ L 55 #[.pointer (some ⟨w.heap.size, 0, none⟩)] _ _ HL5.out (send2_fits o w.heap.size _ HO5.out) eg55).mono ?_
  rintro e y5 ⟨rfl, b⟩
  rw [q2]
  have HO6 := Lib.hid (HO5.out.step b)
  have HL6 := Lib.hid (HL5.out.step b)
  have HC6 := Lib.hid (HC5.out.step b)
  have HB6 := Lib.hid (keep2 b HB5.out)
  clear b o0 o1 o2 o3 oz c0 c1 cz HO5 HL5 HC5 HB5
  have o0 := HO6.out.c 0 rfl
  have o1 := HO6.out.c 1 rfl
  have o2 := HO6.out.c 2 rfl
  have o3 := HO6.out.c 3 rfl
  have oz := HO6.out.2.2
  have c0 := HC6.out.c 0 rfl
  have c1 := HC6.out.c 1 rfl
  have cz := HC6.out.2.2
  go_wp2_with fail
  refine (flying_any k _ _ L _ HC6.out HL6.out (by have := H9.out; omega)).mono ?_
  rintro e wq ⟨u, rfl, hu, b⟩
  obtain ⟨ua, uc, rfl⟩ := row_slice hu
  clear hu
  have HO7 := Lib.hid (HO6.out.step b)
  have HL7 := Lib.hid (HL6.out.step b)
  have HC7 := Lib.hid (HC6.out.step b)
  have HB7 := Lib.hid (keep2 b HB6.out)
  clear b o0 o1 o2 o3 oz c0 c1 cz HO6 HL6 HC6 HB6
  have o0 := HO7.out.c 0 rfl
  have o1 := HO7.out.c 1 rfl
  have o2 := HO7.out.c 2 rfl
  have o3 := HO7.out.c 3 rfl
  have oz := HO7.out.2.2
  have c0 := HC7.out.c 0 rfl
  have c1 := HC7.out.c 1 rfl
  have cz := HC7.out.2.2
  by_cases q3 : (flt L).length = 8
  · have e1 : ((flt L).length : Int) = 8 := by omega
    have HE := Lib.hid (show sdE L o = 2 from by unfold sdE; rw [HIO.out, q1, q2, decide_eq_true q3]; simp)
    go_wp2
    exact bodyPost_ret (v := .int .i64 2) (by simp [results, Try.results39, go_sem]) rfl ⟨by rw [HE.out], Chg.of HB7.out, fun e => by rw [HE.out] at e; cases e⟩
  have e1 : (((flt L).length : Int) == 8) = false := by simp; omega
  by_cases q4 : L.length = 20
  · have e2 : (L.length : Int) = 20 := by omega
    have HE := Lib.hid (show sdE L o = 2 from by unfold sdE; rw [HIO.out, q1, q2, decide_eq_true q4]; simp)
    go_wp2
    exact bodyPost_ret (v := .int .i64 2) (by simp [results, Try.results39, go_sem]) rfl ⟨by rw [HE.out], Chg.of HB7.out, fun e => by rw [HE.out] at e; cases e⟩
  have e2 : ((L.length : Int) == 20) = false := by simp; omega
  have HE := Lib.hid (show sdE L o = 0 by unfold sdE; rw [HIO.out, q1, q2, decide_eq_false q3, decide_eq_false q4]; rfl)
  clear q1 q2 q3 q4
  have HKL := Lib.hid (show k < w.heap.size from HX.out)
  have HSZ := Lib.hid HB7.out.size
  have HAL := Lib.hid (al wq (.cells #[.int .i64 o.a, .int .i64 o.b, .int .i64 o.c, .int .i64 o.d] 27))
  have d1 : (wq.alloc (.cells #[.int .i64 o.a, .int .i64 o.b, .int .i64 o.c, .int .i64 o.d] 27)).cell? ⟨k, 1, none⟩ = some (.slice sa L.length sc) := (HC7.out.alloc _).c 1 rfl
  go_wp2_with fail
  go_region_law (first | (go_simp; go_at_call 57; refine (od_clone (.slice sa L.length sc) L _ (HL7.out.step (by first | exact Below.refl _ _ | exact below_drew _ _ | exact HAL.out | exact HAL.out.trans (below_drew _ _))) (by have := H9.out; omega)).mono ?_; rintro e w3 ⟨u, rfl, hu, b3⟩; have HW3 := Lib.hid (show Below wq.heap.size wq w3 from by first | exact b3 | exact (below_drew _ _).trans b3 | exact keep2 b3 HAL.out | exact keep2 b3 (HAL.out.trans (below_drew _ _))); have HU := Lib.hid (show w3.ownsRow wq.heap.size 27 4 u L.length (ocs L) from row_base hu (by simp)); (first | (have HN3 := Lib.hid (show Cs w3 wq.heap.size #[.int .i64 o.a, .int .i64 o.b, .int .i64 o.c, .int .i64 o.d] from ((Cs.new wq wq.heap.size #[.int .i64 o.a, .int .i64 o.b, .int .i64 o.c, .int .i64 o.d] 27 rfl).step (below_drew _ _)).step b3)) | skip); have m0 : w3.cell? ⟨w.heap.size, 0, none⟩ = some (.int .i64 o.a) := (HO7.out.step HW3.out).c 0 rfl; have m1 : w3.cell? ⟨w.heap.size, 1, none⟩ = some (.int .i64 o.b) := (HO7.out.step HW3.out).c 1 rfl; have m2 : w3.cell? ⟨w.heap.size, 2, none⟩ = some (.int .i64 o.c) := (HO7.out.step HW3.out).c 2 rfl; have m3 : w3.cell? ⟨w.heap.size, 3, none⟩ = some (.int .i64 o.d) := (HO7.out.step HW3.out).c 3 rfl; have mz : w.heap.size < w3.heap.size := (HO7.out.step HW3.out).2.2; clear hu b3) | ((first | refine step_app_od rfl (.tmp 61) (.tmp 63) rfl wq.heap.size wq.heap.size L o u (by simp [Act.eval]) (by simp [Act.eval]) (by first | exact HU.out | exact row_step HU.out (al _ _) | exact row_step HU.out (below_drew _ _) | exact row_step HU.out ((al _ _).trans (below_drew _ _))) (by first | exact HN3.out | exact HN3.out.step (below_drew _ _)) H9.out (by have := HW3.out.size; simp; omega) ?_ | refine step_app_od rfl (.tmp 61) (.tmp 63) rfl wq.heap.size w3.heap.size L o u (by simp [Act.eval]) (by simp [Act.eval]) (by first | exact HU.out | exact row_step HU.out (al _ _) | exact row_step HU.out (below_drew _ _) | exact row_step HU.out ((al _ _).trans (below_drew _ _))) (by first | exact Cs.new _ _ _ _ rfl | exact (Cs.new _ _ _ _ rfl).step (below_drew _ _)) H9.out (by have := HW3.out.size; simp; omega) ?_); rintro v' w5 ho b5; obtain ⟨fa, fc, rfl⟩ := row_slice ho; have HW5 := Lib.hid (show Below wq.heap.size wq w5 from by first | exact HW3.out.trans b5 | exact (HW3.out.alloc HW3.out.size _).trans b5 | exact (HW3.out.trans (below_drew _ _)).trans b5 | exact ((HW3.out.alloc HW3.out.size _).trans (below_drew _ _)).trans b5); have HO5 := Lib.hid ho; clear ho b5) | (go_simp; go_at_call 49; refine (become_n k v1 _ fa fc _ (L ++ [o]) (by simp) _ (HC7.out.step (by first | exact HW5.out | exact HW5.out.trans (below_drew _ _))) (by first | exact ods_of_row rfl HO5.out | exact (ods_of_row rfl HO5.out).step (below_drew _ _)) (by have := H9.out; simp; omega)).mono ?_; rintro e w6 ⟨rfl, hbel, hchg⟩; have HB6 := Lib.hid hbel; have HC6 := Lib.hid hchg; clear hbel hchg))
  all_goals go_wp2
  all_goals exact bodyPost_ret (v := .int .i64 0) (by simp [results, Try.results39, go_sem]) rfl (done_of HB7.out HKL.out HW5.out HO5.out HB6.out HC6.out HE.out)
