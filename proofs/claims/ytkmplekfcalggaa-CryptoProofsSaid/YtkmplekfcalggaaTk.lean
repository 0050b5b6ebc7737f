/- Law CryptoProofs, the walk. -/
import Derived.Test.YtkmplekfcalggaaTj
namespace Go.Proofs.Ytkmplekfcalggaa
open Go.RowKit

/-- One list of lists behind another, by an append. -/
theorem lists_app (W : World) (n0 : Nat) (A B : List (List Int)) (v u : Value) (ty : TypeId) (hA : ListsR n0 A v W) (hB : ListsR n0 B u W) (h0 : 0 < B.length) (h9 : A.length + B.length ≤ 1000) (hb : n0 ≤ W.heap.size) :
    ∃ v' w', (Builtin.append_ #[23, 23] ty #[v, u]).run Try.prog W = .ok v' w' ∧ ListsR n0 (A ++ B) v' w' ∧ Below n0 W w' := by
  obtain ⟨j0, ki, kz0, kz1, kz2⟩ := info_parts infoSl
  obtain ⟨xs, hx1, hx2⟩ := hA
  obtain ⟨ys, hy1, hy2⟩ := hB
  have hyl : ys.length = B.length := by have := hy1.1; omega
  have hxl : xs.length = A.length := by have := hx1.1; omega
  rcases hy1.2 with ⟨-, e⟩ | ⟨g, cap, cur, rfl, -, -⟩
  · omega
  have hcell : ∀ j z, ys[j]? = some z → W.cell? ((⟨g, 0, none⟩ : Addr).add j) = some z := fun j z hz => hy1.cells (g := g) rfl j z hz
  have hone : ∀ z ∈ ys, z.oneCell' = true := fun z hz => by
    obtain ⟨j, hj, rfl⟩ := List.getElem_of_mem hz
    obtain ⟨y, e1, e2, -⟩ := hy2 j (B[j]'(by omega)) (by simp [show j < B.length by omega])
    rw [List.getElem?_eq_getElem hj] at e1
    cases e1
    exact e2
  obtain ⟨v', w', h1, h2, h3, -, -⟩ := run_append_own_at (P := Try.prog) W n0 23 ty 22 j0 (.slice none 0 0) 1 24 Try.underlying23 ki kz0 kz1 kz2 rfl (by decide) v A.length xs hx1 ⟨g, 0, none⟩ B.length cap ys (by omega) hcell hone (by unfold maxLen; omega) (by omega) hb
  have ap : ∀ {y : Value} {x : List Int}, W.ownsRow n0 3 1 y x.length (x.map (Value.int .i64)) → w'.ownsRow n0 3 1 y x.length (x.map (Value.int .i64)) := fun hy => row_grown hy h3 (fun k e => row_type hy hx1 (by decide) e)
  refine ⟨v', w', h1, ⟨xs ++ ys, by rw [List.length_append]; exact h2, fun i x hi => ?_⟩, (Below.refl _ W).grown h3 hb (fun k e => row_own hx1 e)⟩
  by_cases hlt : i < A.length
  · rw [List.getElem?_append_left hlt] at hi
    obtain ⟨y, e1, e2, e3⟩ := hx2 i x hi
    exact ⟨y, by rw [List.getElem?_append_left (by omega)]; exact e1, e2, ap e3⟩
  · rw [List.getElem?_append_right (by omega)] at hi
    obtain ⟨y, e1, e2, e3⟩ := hy2 (i - A.length) x hi
    exact ⟨y, by rw [List.getElem?_append_right (by omega), hxl]; exact e1, e2, ap e3⟩
theorem lists_empty (W : World) {n0 : Nat} (hn : n0 ≤ W.heap.size) : ListsR n0 [] (.slice (some ⟨W.heap.size, 0, none⟩) 0 0) (W.alloc (.cells #[] 22)) :=
  ⟨[], ⟨rfl, .inr ⟨W.heap.size, 0, _, rfl, hn, heap_alloc_new _ _, Nat.le_refl 0, by unfold maxLen; omega, rfl, rfl⟩⟩, fun i x hi => by simp at hi⟩
theorem wpList_app_g {ops : Array Oper} {rest : List Oper} {o : Oper} {a : Act} {w w' : World} {Q : Exit → Act → World → Prop} (s x : Operand) (t : TypeId)
    (ho : o.op = .call { callee := .builtin .append, args := #[s, x], argTypes := #[t, t] }) (hw : Region.wanted o (yielded ops a.tmps) = true) (v sl v' : Value) (hs : a.eval s = v) (hx : a.eval x = sl)
    (hr : (Builtin.append_ #[t, t] o.type #[v, sl]).run Try.prog w = .ok v' w') (h : wpList Try.prog ops Q rest (a.put o.dst v') w') : wpList Try.prog ops Q (o :: rest) a w := by
  refine wpList_step fun K hK => ?_
  rw [if_pos hw]
  unfold Oper.wp execOp
  simp only [ho, resolve, invoke, builtin, Sem.run_bind, Sem.run_pure, Result.andThen_ok, List.map_toArray, List.map_cons, List.map_nil, hs, hx, hr]
  exact hK _ _ h
theorem clL_bd {l : List Int} {i : Int} {p : List Int} (h : clB i p = false) : 2 ≤ (clL l i p).length ∧ (clL l i p).length ≤ 22 := by
  unfold clL
  rw [h, if_neg (by decide)]
  have h1 := stK_L l i p p.length
  have h2 := stK_L2 l i p p.length
  unfold clB at h
  rw [Bool.or_eq_false_iff, Bool.or_eq_false_iff, decide_eq_false_iff_not, decide_eq_false_iff_not] at h
  omega
set_option maxRecDepth 100000 in
set_option maxHeartbeats 8000000 in
theorem pf_few (v0 : Value) (L : List (List Int)) (v1 : Value) (l : List Int) (ix : Int) (v3 : Value) (p : List Int) (w : World) (h0 : RowsAt w v0 L) (h1 : IntsAt w v1 l) (_i0 : -9223372036854775808 ≤ ix) (i9 : ix ≤ 9223372036854775807) (h3 : IntsAt w v3 p) (hf : fewB L 30 = false) : Calls Try.prog 9 #[v0, v1, .int .i64 ix, v3] w fun e w' => e = .returned (.bool true) ∧ Below w.heap.size w w' := by
  have HR0 := Lib.hid h0
  have HRO := Lib.hid h0
  have HA0 := Lib.hid h1
  have HP0 := Lib.hid h3
  replace i9 := Lib.hid i9
  obtain ⟨la, lc, rfl, hm4, -⟩ := h0
  obtain ⟨aa, ac, rfl, hm1, -⟩ := h1
  obtain ⟨pa, pc, rfl, hm6, -⟩ := h3
  unfold maxLen at hm1 hm4 hm6
  clear _i0
  replace hf := Lib.hid hf
  have HB0 := Lib.hid (Below.refl w.heap.size w)
  go_enter Try.func9, Try.ntmps9
  go_wp2_with fail
  refine (head_any _).mono ?_
  rintro e u1 ⟨rfl, b1⟩
  have FR_1 := Lib.hid (HR0.out.step b1)
  clear HR0
  have FA_2 := Lib.hid (HA0.out.step b1)
  clear HA0
  have FP_3 := Lib.hid (HP0.out.step b1)
  clear HP0
  have HB4 := Lib.hid (keep2 b1 HB0.out)
  clear HB0 b1
  go_wp2_with fail
  refine (few_any _ L 30 _ FR_1.out).mono ?_
  rintro e w' ⟨rfl, rfl⟩
  rw [hf.out]
  go_wp2
  go_ret
  exact ⟨rfl, HB4.out⟩
set_option maxRecDepth 100000 in
set_option maxHeartbeats 8000000 in
theorem pf_nil (v0 : Value) (L : List (List Int)) (v1 : Value) (l : List Int) (ix : Int) (v3 : Value) (p : List Int) (w : World) (h0 : RowsAt w v0 L) (h1 : IntsAt w v1 l) (_i0 : -9223372036854775808 ≤ ix) (i9 : ix ≤ 9223372036854775807) (h3 : IntsAt w v3 p) (hf : fewB L 30 = true) (hlen : L.length = 0) : Calls Try.prog 9 #[v0, v1, .int .i64 ix, v3] w fun e w' => e = .returned (.bool true) ∧ Below w.heap.size w w' := by
  have HR0 := Lib.hid h0
  have HRO := Lib.hid h0
  have HA0 := Lib.hid h1
  have HP0 := Lib.hid h3
  replace i9 := Lib.hid i9
  obtain ⟨la, lc, rfl, hm4, -⟩ := h0
  obtain ⟨aa, ac, rfl, hm1, -⟩ := h1
  obtain ⟨pa, pc, rfl, hm6, -⟩ := h3
  unfold maxLen at hm1 hm4 hm6
  clear _i0
  replace hf := Lib.hid hf
  replace hlen := Lib.hid hlen
  have HB0 := Lib.hid (Below.refl w.heap.size w)
  go_enter Try.func9, Try.ntmps9
  go_wp2_with fail
  refine (head_any _).mono ?_
  rintro e u1 ⟨rfl, b1⟩
  have FR_1 := Lib.hid (HR0.out.step b1)
  clear HR0
  have FA_2 := Lib.hid (HA0.out.step b1)
  clear HA0
  have FP_3 := Lib.hid (HP0.out.step b1)
  clear HP0
  have HB4 := Lib.hid (keep2 b1 HB0.out)
  clear HB0 b1
  go_wp2_with fail
  refine (few_any _ L 30 _ FR_1.out).mono ?_
  rintro e w' ⟨rfl, rfl⟩
  rw [hf.out]
  have z1 : ((L.length : Int) == 0) = true := by simp; exact List.length_eq_zero_iff.1 hlen.out
  go_wp2
  go_ret
  exact ⟨rfl, HB4.out⟩
set_option maxRecDepth 100000 in
set_option maxHeartbeats 8000000 in
theorem pf_long (v0 : Value) (L : List (List Int)) (v1 : Value) (l : List Int) (ix : Int) (v3 : Value) (p : List Int) (w : World) (h0 : RowsAt w v0 L) (h1 : IntsAt w v1 l) (_i0 : -9223372036854775808 ≤ ix) (i9 : ix ≤ 9223372036854775807) (h3 : IntsAt w v3 p) (hf : fewB L 30 = true) (hlen : 0 < L.length) (hl : 40 < l.length) : Calls Try.prog 9 #[v0, v1, .int .i64 ix, v3] w fun e w' => e = .returned (.bool true) ∧ Below w.heap.size w w' := by
  have HR0 := Lib.hid h0
  have HRO := Lib.hid h0
  have HA0 := Lib.hid h1
  have HP0 := Lib.hid h3
  replace i9 := Lib.hid i9
  obtain ⟨la, lc, rfl, hm4, -⟩ := h0
  obtain ⟨aa, ac, rfl, hm1, -⟩ := h1
  obtain ⟨pa, pc, rfl, hm6, -⟩ := h3
  unfold maxLen at hm1 hm4 hm6
  clear _i0
  replace hf := Lib.hid hf
  replace hlen := Lib.hid hlen
  replace hl := Lib.hid hl
  have HB0 := Lib.hid (Below.refl w.heap.size w)
  go_enter Try.func9, Try.ntmps9
  go_wp2_with fail
  refine (head_any _).mono ?_
  rintro e u1 ⟨rfl, b1⟩
  have FR_1 := Lib.hid (HR0.out.step b1)
  clear HR0
  have FA_2 := Lib.hid (HA0.out.step b1)
  clear HA0
  have FP_3 := Lib.hid (HP0.out.step b1)
  clear HP0
  have HB4 := Lib.hid (keep2 b1 HB0.out)
  clear HB0 b1
  go_wp2_with fail
  refine (few_any _ L 30 _ FR_1.out).mono ?_
  rintro e w' ⟨rfl, rfl⟩
  rw [hf.out]
  have z6 : ¬ L.length = 0 := by have := hlen.out; omega
  have z5 : ¬ L = [] := fun h => z6 (by rw [h]; rfl)
  have z1 : ((L.length : Int) == 0) = false := by simp; intro e; have := hlen.out; rw [e] at this; simp at this
  have z3 : ((L.length : Int) = 0) = False := by simp; intro e; have := hlen.out; rw [e] at this; simp at this
  have g1 : decide ((l.length : Int) > 40) = true := by simp; have := hl.out; omega
  have g1b : decide ((40 : Int) < l.length) = true := by simp; have := hl.out; omega
  go_wp2
  go_ret
  exact ⟨rfl, HB4.out⟩
set_option maxRecDepth 100000 in
set_option maxHeartbeats 8000000 in
theorem pf_path (v0 : Value) (L : List (List Int)) (v1 : Value) (l : List Int) (ix : Int) (v3 : Value) (p : List Int) (w : World) (h0 : RowsAt w v0 L) (h1 : IntsAt w v1 l) (_i0 : -9223372036854775808 ≤ ix) (i9 : ix ≤ 9223372036854775807) (h3 : IntsAt w v3 p) (hf : fewB L 30 = true) (hlen : 0 < L.length) (hl : l.length ≤ 40) (hp : 20 < p.length) : Calls Try.prog 9 #[v0, v1, .int .i64 ix, v3] w fun e w' => e = .returned (.bool true) ∧ Below w.heap.size w w' := by
  have HR0 := Lib.hid h0
  have HRO := Lib.hid h0
  have HA0 := Lib.hid h1
  have HP0 := Lib.hid h3
  replace i9 := Lib.hid i9
  obtain ⟨la, lc, rfl, hm4, -⟩ := h0
  obtain ⟨aa, ac, rfl, hm1, -⟩ := h1
  obtain ⟨pa, pc, rfl, hm6, -⟩ := h3
  unfold maxLen at hm1 hm4 hm6
  clear _i0
  replace hf := Lib.hid hf
  replace hlen := Lib.hid hlen
  replace hl := Lib.hid hl
  replace hp := Lib.hid hp
  have HB0 := Lib.hid (Below.refl w.heap.size w)
  go_enter Try.func9, Try.ntmps9
  go_wp2_with fail
  refine (head_any _).mono ?_
  rintro e u1 ⟨rfl, b1⟩
  have FR_1 := Lib.hid (HR0.out.step b1)
  clear HR0
  have FA_2 := Lib.hid (HA0.out.step b1)
  clear HA0
  have FP_3 := Lib.hid (HP0.out.step b1)
  clear HP0
  have HB4 := Lib.hid (keep2 b1 HB0.out)
  clear HB0 b1
  go_wp2_with fail
  refine (few_any _ L 30 _ FR_1.out).mono ?_
  rintro e w' ⟨rfl, rfl⟩
  rw [hf.out]
  have z6 : ¬ L.length = 0 := by have := hlen.out; omega
  have z5 : ¬ L = [] := fun h => z6 (by rw [h]; rfl)
  have z1 : ((L.length : Int) == 0) = false := by simp; intro e; have := hlen.out; rw [e] at this; simp at this
  have z3 : ((L.length : Int) = 0) = False := by simp; intro e; have := hlen.out; rw [e] at this; simp at this
  have g1 : decide ((l.length : Int) > 40) = false := by simp; have := hl.out; omega
  have g1b : decide ((40 : Int) < l.length) = false := by simp; have := hl.out; omega
  have g2 : decide ((p.length : Int) > 20) = true := by simp; have := hp.out; omega
  have g2b : decide ((20 : Int) < p.length) = true := by simp; have := hp.out; omega
  go_wp2
  go_ret
  exact ⟨rfl, HB4.out⟩
set_option maxRecDepth 100000 in
set_option maxHeartbeats 8000000 in
theorem pf_no (v0 : Value) (L : List (List Int)) (v1 : Value) (l : List Int) (ix : Int) (v3 : Value) (p : List Int) (w : World) (h0 : RowsAt w v0 L) (h1 : IntsAt w v1 l) (_i0 : -9223372036854775808 ≤ ix) (i9 : ix ≤ 9223372036854775807) (h3 : IntsAt w v3 p) (hf : fewB L 30 = true) (hlen : 0 < L.length) (hl : l.length ≤ 40) (hp : p.length ≤ 20) (hb : clB ix p = true) : Calls Try.prog 9 #[v0, v1, .int .i64 ix, v3] w fun e w' => e = .returned (.bool true) ∧ Below w.heap.size w w' := by
  have HR0 := Lib.hid h0
  have HRO := Lib.hid h0
  have HA0 := Lib.hid h1
  have HP0 := Lib.hid h3
  replace i9 := Lib.hid i9
  obtain ⟨la, lc, rfl, hm4, -⟩ := h0
  obtain ⟨aa, ac, rfl, hm1, -⟩ := h1
  obtain ⟨pa, pc, rfl, hm6, -⟩ := h3
  unfold maxLen at hm1 hm4 hm6
  clear _i0
  replace hf := Lib.hid hf
  replace hlen := Lib.hid hlen
  replace hl := Lib.hid hl
  replace hp := Lib.hid hp
  replace hb := Lib.hid hb
  have HB0 := Lib.hid (Below.refl w.heap.size w)
  go_enter Try.func9, Try.ntmps9
  go_wp2_with fail
  refine (head_any _).mono ?_
  rintro e u1 ⟨rfl, b1⟩
  have FR_1 := Lib.hid (HR0.out.step b1)
  clear HR0
  have FA_2 := Lib.hid (HA0.out.step b1)
  clear HA0
  have FP_3 := Lib.hid (HP0.out.step b1)
  clear HP0
  have HB4 := Lib.hid (keep2 b1 HB0.out)
  clear HB0 b1
  go_wp2_with fail
  refine (few_any _ L 30 _ FR_1.out).mono ?_
  rintro e w' ⟨rfl, rfl⟩
  rw [hf.out]
  have z6 : ¬ L.length = 0 := by have := hlen.out; omega
  have z5 : ¬ L = [] := fun h => z6 (by rw [h]; rfl)
  have z1 : ((L.length : Int) == 0) = false := by simp; intro e; have := hlen.out; rw [e] at this; simp at this
  have z3 : ((L.length : Int) = 0) = False := by simp; intro e; have := hlen.out; rw [e] at this; simp at this
  have g1 : decide ((l.length : Int) > 40) = false := by simp; have := hl.out; omega
  have g1b : decide ((40 : Int) < l.length) = false := by simp; have := hl.out; omega
  have g2 : decide ((p.length : Int) > 20) = false := by simp; have := hp.out; omega
  have g2b : decide ((20 : Int) < p.length) = false := by simp; have := hp.out; omega
  go_wp2_with fail
  clear g1 g1b g2 g2b hm1 hm4 hm6 z1 z3 z5 z6
  have HBS := Lib.hid (Nat.le_trans HB4.out.size (Nat.le_succ _))
  refine (climb_any _ _ l p ix _ FA_2.out FP_3.out (by have := hl.out; omega) i9.out).mono ?_
  rintro e u2 ⟨⟨cu, rfl, hc⟩, b2⟩
  have FR_5 := Lib.hid (FR_1.out.step b2)
  clear FR_1
  have FA_6 := Lib.hid (FA_2.out.step b2)
  clear FA_2
  have FP_7 := Lib.hid (FP_3.out.step b2)
  clear FP_3
  have HB8 := Lib.hid (keep2 b2 HB4.out)
  clear HB4 b2
  clear FP_7
  rw [show clL l ix p = [] by unfold clL; rw [hb.out]; rfl] at hc
  obtain ⟨ca, cc, rfl⟩ := hc.slice
  rw [List.length_nil]
  go_wp2
  go_ret
  exact ⟨rfl, HB8.out⟩
set_option maxRecDepth 100000 in
set_option maxHeartbeats 8000000 in
theorem pf_ne (v0 : Value) (L : List (List Int)) (v1 : Value) (l : List Int) (ix : Int) (v3 : Value) (p : List Int) (w : World) (h0 : RowsAt w v0 L) (h1 : IntsAt w v1 l) (_i0 : -9223372036854775808 ≤ ix) (i9 : ix ≤ 9223372036854775807) (h3 : IntsAt w v3 p) (hf : fewB L 30 = true) (hlen : 0 < L.length) (hl : l.length ≤ 40) (hp : p.length ≤ 20) (hb : clB ix p = false) (hq : clH l ix p ≠ rtL L) : Calls Try.prog 9 #[v0, v1, .int .i64 ix, v3] w fun e w' => e = .returned (.bool true) ∧ Below w.heap.size w w' := by
  have HR0 := Lib.hid h0
  have HRO := Lib.hid h0
  have HA0 := Lib.hid h1
  have HP0 := Lib.hid h3
  replace i9 := Lib.hid i9
  obtain ⟨la, lc, rfl, hm4, -⟩ := h0
  obtain ⟨aa, ac, rfl, hm1, -⟩ := h1
  obtain ⟨pa, pc, rfl, hm6, -⟩ := h3
  unfold maxLen at hm1 hm4 hm6
  clear _i0
  replace hf := Lib.hid hf
  replace hlen := Lib.hid hlen
  replace hl := Lib.hid hl
  replace hp := Lib.hid hp
  replace hb := Lib.hid hb
  have HB0 := Lib.hid (Below.refl w.heap.size w)
  go_enter Try.func9, Try.ntmps9
  go_wp2_with fail
  refine (head_any _).mono ?_
  rintro e u1 ⟨rfl, b1⟩
  have FR_1 := Lib.hid (HR0.out.step b1)
  clear HR0
  have FA_2 := Lib.hid (HA0.out.step b1)
  clear HA0
  have FP_3 := Lib.hid (HP0.out.step b1)
  clear HP0
  have HB4 := Lib.hid (keep2 b1 HB0.out)
  clear HB0 b1
  go_wp2_with fail
  refine (few_any _ L 30 _ FR_1.out).mono ?_
  rintro e w' ⟨rfl, rfl⟩
  rw [hf.out]
  have z6 : ¬ L.length = 0 := by have := hlen.out; omega
  have z5 : ¬ L = [] := fun h => z6 (by rw [h]; rfl)
  have z1 : ((L.length : Int) == 0) = false := by simp; intro e; have := hlen.out; rw [e] at this; simp at this
  have z3 : ((L.length : Int) = 0) = False := by simp; intro e; have := hlen.out; rw [e] at this; simp at this
  have g1 : decide ((l.length : Int) > 40) = false := by simp; have := hl.out; omega
  have g1b : decide ((40 : Int) < l.length) = false := by simp; have := hl.out; omega
  have g2 : decide ((p.length : Int) > 20) = false := by simp; have := hp.out; omega
  have g2b : decide ((20 : Int) < p.length) = false := by simp; have := hp.out; omega
  go_wp2_with fail
  clear g1 g1b g2 g2b hm1 hm4 hm6 z1 z3 z5 z6
  have HBS := Lib.hid (Nat.le_trans HB4.out.size (Nat.le_succ _))
  refine (climb_any _ _ l p ix _ FA_2.out FP_3.out (by have := hl.out; omega) i9.out).mono ?_
  rintro e u2 ⟨⟨cu, rfl, hc⟩, b2⟩
  have FR_5 := Lib.hid (FR_1.out.step b2)
  clear FR_1
  have FA_6 := Lib.hid (FA_2.out.step b2)
  clear FA_2
  have FP_7 := Lib.hid (FP_3.out.step b2)
  clear FP_3
  have HB8 := Lib.hid (keep2 b2 HB4.out)
  clear HB4 b2
  clear FP_7
  have HCL := Lib.hid (clL_bd (l := l) hb.out)
  obtain ⟨ca, cc, rfl⟩ := hc.slice
  obtain ⟨cn, hcn⟩ : ∃ n, (clL l ix p).length = n := ⟨_, rfl⟩
  rw [hcn] at hc HCL ⊢
  have HCN := Lib.hid hcn
  clear hcn
  obtain ⟨ch, hch⟩ : ∃ z, clH l ix p = z := ⟨_, rfl⟩
  rw [hch] at hq ⊢
  have HCH := Lib.hid hch
  clear hch
  have z1 : ((cn : Int) == 0) = false := by simp; have := HCL.out; omega
  have z2 : ((cn : Int) = 0) = False := by simp; have := HCL.out; omega
  have z3 : ¬ cn = 0 := by have := HCL.out; omega
  clear hc
  obtain ⟨rt, hrt⟩ : ∃ z, rtL L = z := ⟨_, rfl⟩
  rw [hrt] at hq
  replace hrt := Lib.hid hrt
  go_wp2_with fail
  refine (root_any _ L _ FR_5.out).mono ?_
  rintro e u3 ⟨rfl, b3⟩
  have FR_9 := Lib.hid (FR_5.out.step b3)
  clear FR_5
  have FA_10 := Lib.hid (FA_6.out.step b3)
  clear FA_6
  have HB11 := Lib.hid (keep2 b3 HB8.out)
  clear HB8 b3
  rw [hrt.out]
  have y1 : (ch == rt) = false := by simpa using hq
  have y2 : (ch != rt) = true := by simpa using hq
  have y3 : (ch = rt) = False := by simpa using hq
  go_wp2
  go_ret
  exact ⟨rfl, HB11.out⟩
set_option maxRecDepth 100000 in
set_option maxHeartbeats 8000000 in
theorem pf_main (v0 : Value) (L : List (List Int)) (v1 : Value) (l : List Int) (ix : Int) (v3 : Value) (p : List Int) (w : World) (h0 : RowsAt w v0 L) (h1 : IntsAt w v1 l) (_i0 : -9223372036854775808 ≤ ix) (i9 : ix ≤ 9223372036854775807) (h3 : IntsAt w v3 p) (hf : fewB L 30 = true) (hlen : 0 < L.length) (hl : l.length ≤ 40) (hp : p.length ≤ 20) (hb : clB ix p = false) (hq : clH l ix p = rtL L) : Calls Try.prog 9 #[v0, v1, .int .i64 ix, v3] w fun e w' => e = .returned (.bool true) ∧ Below w.heap.size w w' := by
  have HR0 := Lib.hid h0
  have HRO := Lib.hid h0
  have HA0 := Lib.hid h1
  have HP0 := Lib.hid h3
  replace i9 := Lib.hid i9
  obtain ⟨la, lc, rfl, hm4, -⟩ := h0
  obtain ⟨aa, ac, rfl, hm1, -⟩ := h1
  obtain ⟨pa, pc, rfl, hm6, -⟩ := h3
  unfold maxLen at hm1 hm4 hm6
  clear _i0
  replace hf := Lib.hid hf
  replace hlen := Lib.hid hlen
  replace hl := Lib.hid hl
  replace hp := Lib.hid hp
  replace hb := Lib.hid hb
  have HB0 := Lib.hid (Below.refl w.heap.size w)
  go_enter Try.func9, Try.ntmps9
  go_wp2_with fail
  refine (head_any _).mono ?_
  rintro e u1 ⟨rfl, b1⟩
  have FR_1 := Lib.hid (HR0.out.step b1)
  clear HR0
  have FA_2 := Lib.hid (HA0.out.step b1)
  clear HA0
  have FP_3 := Lib.hid (HP0.out.step b1)
  clear HP0
  have HB4 := Lib.hid (keep2 b1 HB0.out)
  clear HB0 b1
  go_wp2_with fail
  refine (few_any _ L 30 _ FR_1.out).mono ?_
  rintro e w' ⟨rfl, rfl⟩
  rw [hf.out]
  have z6 : ¬ L.length = 0 := by have := hlen.out; omega
  have z5 : ¬ L = [] := fun h => z6 (by rw [h]; rfl)
  have z1 : ((L.length : Int) == 0) = false := by simp; intro e; have := hlen.out; rw [e] at this; simp at this
  have z3 : ((L.length : Int) = 0) = False := by simp; intro e; have := hlen.out; rw [e] at this; simp at this
  have g1 : decide ((l.length : Int) > 40) = false := by simp; have := hl.out; omega
  have g1b : decide ((40 : Int) < l.length) = false := by simp; have := hl.out; omega
  have g2 : decide ((p.length : Int) > 20) = false := by simp; have := hp.out; omega
  have g2b : decide ((20 : Int) < p.length) = false := by simp; have := hp.out; omega
  go_wp2_with fail
  clear g1 g1b g2 g2b hm1 hm4 hm6 z1 z3 z5 z6
  have HBS := Lib.hid (Nat.le_trans HB4.out.size (Nat.le_succ _))
  refine (climb_any _ _ l p ix _ FA_2.out FP_3.out (by have := hl.out; omega) i9.out).mono ?_
  rintro e u2 ⟨⟨cu, rfl, hc⟩, b2⟩
  have FR_5 := Lib.hid (FR_1.out.step b2)
  clear FR_1
  have FA_6 := Lib.hid (FA_2.out.step b2)
  clear FA_2
  have FP_7 := Lib.hid (FP_3.out.step b2)
  clear FP_3
  have HB8 := Lib.hid (keep2 b2 HB4.out)
  clear HB4 b2
  clear FP_7
  have HCL := Lib.hid (clL_bd (l := l) hb.out)
  obtain ⟨ca, cc, rfl⟩ := hc.slice
  obtain ⟨cn, hcn⟩ : ∃ n, (clL l ix p).length = n := ⟨_, rfl⟩
  rw [hcn] at hc HCL ⊢
  have HCN := Lib.hid hcn
  clear hcn
  obtain ⟨ch, hch⟩ : ∃ z, clH l ix p = z := ⟨_, rfl⟩
  rw [hch] at hq ⊢
  have HCH := Lib.hid hch
  clear hch
  have z1 : ((cn : Int) == 0) = false := by simp; have := HCL.out; omega
  have z2 : ((cn : Int) = 0) = False := by simp; have := HCL.out; omega
  have z3 : ¬ cn = 0 := by have := HCL.out; omega
  have FC_9 := Lib.hid (hc)
  clear hc
  obtain ⟨rt, hrt⟩ : ∃ z, rtL L = z := ⟨_, rfl⟩
  rw [hrt] at hq
  subst hq
  have HQ := Lib.hid (show clH l ix p = rtL L by rw [HCH.out, hrt])
  replace hrt := Lib.hid hrt
  go_wp2_with fail
  refine (root_any _ L _ FR_5.out).mono ?_
  rintro e u3 ⟨rfl, b3⟩
  have FR_10 := Lib.hid (FR_5.out.step b3)
  clear FR_5
  have FA_11 := Lib.hid (FA_6.out.step b3)
  clear FA_6
  have FC_12 := Lib.hid (FC_9.out.step b3)
  clear FC_9
  have HB13 := Lib.hid (keep2 b3 HB8.out)
  clear HB8 b3
  rw [hrt.out]
  go_wp2_with fail
  clear z1 z2 z3
  go_loopw [12] (fun kv wr => ∃ k : Nat, k ≤ L.length ∧ kv = .int .i64 k ∧ Hid (∀ q, q < k → L.getD q [] ≠ l) ∧ Hid (Below u3.heap.size u3 wr)) (fun kv _ => L.length - (intOf kv).toNat)
  case atStart => exact ⟨0, by omega, rfl, Lib.hid (fun q h => by omega), Lib.hid (Below.refl _ _)⟩
  case round =>
    obtain ⟨k, hk, rfl, HK, HW⟩ := hrel
    have hk9 : k ≤ 30 := by have := (few_len hf.out).1; omega
    have hkw : wrap64 ((k : Int) + 1) = k + 1 := IntWalk.wrap64_in _ (by omega)
    have HK8 := Lib.hid (show ((k + 1 : Nat) : Int) = (k : Int) + 1 by omega)
    by_cases hlt : k < L.length
    · have HLT := Lib.hid hlt
      have t1 : decide ((k : Int) < L.length) = true := by simp; omega
      have t2 : (k : Int) < L.length := by omega
      have t3 : (0 : Int) ≤ k := by omega
      have HA := Lib.hid (FA_11.out.step HW.out)
      obtain ⟨a2, cap2, hva, -, hcs⟩ := FR_10.out.step HW.out
      obtain ⟨rfl, rfl⟩ : la = a2 ∧ lc = cap2 := by simpa using hva
      obtain ⟨b, off, rfl, hcs2⟩ := hcs (by intro h; rw [h] at hlt; simp at hlt)
      obtain ⟨s, x0, hs⟩ := hcs2 k _ (rows_get hlt)
      have HNX := Lib.hid (show L.getD k [] ≠ l → ∀ q, q < k + 1 → L.getD q [] ≠ l from fun hx q h => by
        by_cases e : q = k
        · subst e; exact hx
        · exact HK.out q (by omega))
      clear hcs hcs2 hva hk
      obtain ⟨x, hx⟩ : ∃ x, L.getD k [] = x := ⟨_, rfl⟩
      rw [hx] at hs HNX
      clear hx
      have HS := Lib.hid hs
      obtain ⟨sa, sc, rfl, -, -⟩ := hs
      go_wp2_with fail
      refine (ints_any _ _ x l _ HS.out HA.out).mono ?_
      rintro e w3 ⟨rfl, n3, hw3⟩
      have HB3 := Lib.hid (show Below u3.heap.size u3 w3 from HW.out.trans (hw3 ▸ below_drewN' _ _ _))
      clear hw3
      by_cases hxl : x = l
      · rw [decide_eq_true hxl]
        clear hxl
        go_wp2
        go_ret
        exact ⟨rfl, keep2 HB3.out HB13.out⟩
      · rw [decide_eq_false hxl]
        have HN2 := Lib.hid (HNX.out hxl)
        clear hxl
        go_wp2
        go_roundw
        case rel => exact ⟨k + 1, HLT.out, by first | rw [hkw, HK8.out] | rw [HK8.out], HN2, HB3⟩
        case measure => have h3 := HK8.out; (first | rw [hkw] | skip); simp [intOf]; omega
    · obtain rfl : k = L.length := by omega
      have HNM := Lib.hid (show l ∉ L from fun hm => by
        obtain ⟨j, hj, e⟩ := List.getElem_of_mem hm
        exact HK.out j hj (by simp [hj, e]))
      have HLN := Lib.hid (show L ≠ [] from fun e => by have := hlen.out; rw [e] at this; simp at this)
      have HCD := Lib.hid (show Cld (clL l ix p ++ trL L) from (proof_facts (by have := (few_len hf.out).1; omega) HLN.out hb.out HQ.out).resolve_left HNM.out)
      have HTL := Lib.hid (trL_len HLN.out)
      have HFE := Lib.hid (show ∀ x ∈ L, x.length ≤ 5000 from fun x hx => by
        obtain ⟨j, hj, rfl⟩ := List.getElem_of_mem hx
        have := (few_len hf.out).2 j hj
        rw [show L.getD j [] = L[j] by simp [hj]] at this
        omega)
      have HR := Lib.hid (FR_10.out.step HW.out)
      have HBW := Lib.hid (keep2 HW.out HB13.out)
      have HC := Lib.hid ((FC_12.out.step HW.out).base (show w.heap.size ≤ _ from HBS.out))
      have hr5 := lists_app (wr.alloc (.cells #[] 22)) w.heap.size [] (clL l ix p) (.slice (some ⟨wr.heap.size, 0, none⟩) 0 0) (.slice ca cn cc) 23 (lists_empty wr HBW.out.size) (HC.out.step (al _ _)) (by rw [HCN.out]; have := HCL.out; omega) (by rw [HCN.out, List.length_nil]; have := HCL.out; omega) (Nat.le_trans HBW.out.size (al _ _).size)
      obtain ⟨v5, w5, q5, hl5, hb5⟩ := hr5
      have HL5 := Lib.hid (show ListsR w.heap.size (clL l ix p) v5 w5 from by rw [List.nil_append] at hl5; exact hl5)
      have HB5 := Lib.hid (show Below w.heap.size w w5 from ((HBW.out.alloc HBW.out.size _).trans hb5))
      have HRX := Lib.hid (show RowsAt w5 (.slice la L.length lc) L from HRO.out.step HB5.out)
      clear hl5 hb5 HK hlt hk hk9 hkw
      have hm1 : (1 : Nat) = 1 := rfl
      go_wp2_with (at_builtin; refine wpList_app_g _ _ 23 rfl (by simp [Region.wanted, yielded]) _ _ v5 rfl rfl q5 ?_)
      refine (rlists_any _ L _ HRX.out (by have := (few_len hf.out).1; omega) hlen.out HFE.out).mono ?_
      rintro e w6 ⟨tu, rfl, ht, b6⟩
      have HL6 := Lib.hid (HL5.out.step b6)
      have HT6 := Lib.hid (ListsR.base ht HB5.out.size)
      have HB6 := Lib.hid (keep2 b6 HB5.out)
      clear ht b6 q5
      have HT1 := Lib.hid (show 0 < (trL L).length by rw [trL_is, List.length_append, lvL_len]; have := hlen.out; omega)
      have h7 := lists_app w6 w.heap.size (clL l ix p) (trL L) v5 tu 23 HL6.out HT6.out HT1.out (by rw [HCN.out]; have h1 := HTL.out; have h2 := HCL.out; have h3 := (few_len hf.out).1; omega) HB6.out.size
      obtain ⟨v7, w7, q7, hl7, hb7⟩ := h7
      have HT7 := Lib.hid hl7
      have HB7 := Lib.hid (HB6.out.trans hb7)
      clear hl7 hb7
      obtain ⟨v5a, v5c, rfl⟩ := HL5.out.slice
      obtain ⟨tua, tuc, rfl⟩ := HT6.out.slice
      go_wp2_with (at_builtin; refine wpList_app_g _ _ 23 rfl (by simp [Region.wanted, yielded]) _ _ v7 rfl rfl q7 ?_)
      refine (collide_yes _ _ _ (HT7.out.rows (by rw [List.length_append, HCN.out]; have h1 := HTL.out; have h2 := HCL.out; have h3 := (few_len hf.out).1; omega)) (by rw [List.length_append, HCN.out]; have h1 := HTL.out; have h2 := HCL.out; have h3 := (few_len hf.out).1; omega) HCD.out).mono ?_
      rintro e w8 ⟨rfl, b8⟩
      have HB8 := Lib.hid (keep2 b8 HB7.out)
      clear b8 q7
      go_wp2
      go_ret
      exact ⟨rfl, HB8.out⟩
theorem proofs_any (v0 : Value) (L : List (List Int)) (v1 : Value) (l : List Int) (ix : Int) (v3 : Value) (p : List Int) (w : World) (h0 : RowsAt w v0 L) (h1 : IntsAt w v1 l) (i0 : -9223372036854775808 ≤ ix) (i9 : ix ≤ 9223372036854775807) (h3 : IntsAt w v3 p) : Calls Try.prog 9 #[v0, v1, .int .i64 ix, v3] w fun e w' => e = .returned (.bool true) ∧ Below w.heap.size w w' := by
  cases hf : fewB L 30
  · exact pf_few v0 L v1 l ix v3 p w h0 h1 i0 i9 h3 hf
  · by_cases c0 : L.length = 0
    · exact pf_nil v0 L v1 l ix v3 p w h0 h1 i0 i9 h3 hf c0
    · by_cases c1 : 40 < l.length
      · exact pf_long v0 L v1 l ix v3 p w h0 h1 i0 i9 h3 hf (by omega) c1
      · by_cases c2 : 20 < p.length
        · exact pf_path v0 L v1 l ix v3 p w h0 h1 i0 i9 h3 hf (by omega) (by omega) c2
        · cases hb : clB ix p
          · by_cases hq : clH l ix p = rtL L
            · exact pf_main v0 L v1 l ix v3 p w h0 h1 i0 i9 h3 hf (by omega) (by omega) (by omega) hb hq
            · exact pf_ne v0 L v1 l ix v3 p w h0 h1 i0 i9 h3 hf (by omega) (by omega) (by omega) hb hq
          · exact pf_no v0 L v1 l ix v3 p w h0 h1 i0 i9 h3 hf (by omega) (by omega) (by omega) hb
end Go.Proofs.Ytkmplekfcalggaa
