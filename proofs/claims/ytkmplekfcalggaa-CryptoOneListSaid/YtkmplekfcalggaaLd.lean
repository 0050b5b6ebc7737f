/- Law CryptoOneList, the walk. -/
import Derived.Test.YtkmplekfcalggaaNr
namespace Go.Proofs.Ytkmplekfcalggaa
open Go.RowKit

theorem Cs.of_heap {W : World} {g : Nat} {cur : Array Value} {t : TypeId} (h : W.heap[g]? = some (.cells cur t (0, 0))) : Cs W g cur :=
  ⟨fun j _ => by simp [World.cell?, h], fun j _ => by simp [World.frozen?, h], (Array.getElem?_eq_some_iff.1 h).1⟩
theorem rows_vals {W : World} {b off cap : Nat} {L : List (List Int)} (h : RowsAt W (.slice (some ⟨b, off, none⟩) L.length cap) L) :
    ∃ U : List Value, U.length = L.length ∧ (∀ (i : Nat) (u : Value), U[i]? = some u → W.cell? ((⟨b, off, none⟩ : Addr).add i) = some u) ∧ (∀ u ∈ U, u.oneCell' = true) ∧ ∀ (i : Nat) (x : List Int), L[i]? = some x → ∃ u, U[i]? = some u ∧ IntsAt W u x := by
  obtain ⟨a, c, hv, hm, hc⟩ := h
  cases hv
  have key : ∀ i, i < L.length → ∃ u, W.cell? ⟨b, off + i, none⟩ = some u ∧ IntsAt W u (L.getD i []) := fun i hi => by
    obtain ⟨b1, o1, e, hx⟩ := hc (by intro e; rw [e] at hi; simp at hi)
    cases e
    exact hx i _ (rows_get hi)
  have hch : ∃ f : Nat → Value, ∀ i, i < L.length → W.cell? ⟨b, off + i, none⟩ = some (f i) ∧ IntsAt W (f i) (L.getD i []) :=
    ⟨fun i => if h : i < L.length then (key i h).choose else undef, fun i hi => by simp only [hi, dif_pos]; exact (key i hi).choose_spec⟩
  obtain ⟨f, hf⟩ := hch
  refine ⟨(List.range L.length).map f, by simp, fun i u hu => ?_, fun u hu => ?_, fun i x hi => ?_⟩
  · rw [List.getElem?_map] at hu
    have hi : i < L.length := by
      by_cases h : i < L.length
      · exact h
      · rw [List.getElem?_eq_none (by simpa using h)] at hu; cases hu
    rw [List.getElem?_range hi] at hu
    cases hu
    rw [Go.WideShapes.add_plain]
    exact (hf i hi).1
  · obtain ⟨i, hi, rfl⟩ := List.mem_map.1 hu
    obtain ⟨a, c, e, -, -⟩ := (hf i (by simpa using hi)).2
    rw [e]; rfl
  · have hlt := (List.getElem?_eq_some_iff.1 hi).1
    refine ⟨f i, by rw [List.getElem?_map, List.getElem?_range hlt]; rfl, ?_⟩
    have := (hf i hlt).2
    rwa [show L.getD i [] = x by simp [List.getD_eq_getElem?_getD, hi]] at this
theorem more_rows {W w1 : World} {g c j : Nat} {L : List (List Int)} {U : List Value} {l : List Int} {ov : Value} (hU : U.length = L.length) (hm : L.length ≤ 1000) (hI : ∀ (i : Nat) (x : List Int), L[i]? = some x → ∃ u, U[i]? = some u ∧ IntsAt W u x) (ho : IntsAt W ov l) (hb : Below W.heap.size W w1)
    (hr : w1.ownsRow W.heap.size 22 1 (.slice (some ⟨g, 0, none⟩) L.length c) L.length U) (hj : j < L.length) :
    RowsAt (w1.setCell ⟨g, j, none⟩ ov) (.slice (some ⟨g, 0, none⟩) L.length c) (L.set j l) ∧ W.heap.size ≤ g ∧ w1.cell? ⟨g, j, none⟩ = some (U.getD j undef) ∧ w1.frozen? ⟨g, j, none⟩ = false := by
  rcases hr.2 with ⟨e, -⟩ | ⟨g', cap, cur, e, hg, hh, h1, h2, h3, h4⟩
  · cases e
  obtain ⟨rfl, rfl⟩ : g = g' ∧ c = cap := by simpa using e
  have hC := Cs.of_heap hh
  have hcs : j < cur.size := by omega
  have hget : ∀ i u, U[i]? = some u → i < L.length → cur[i]? = some u := fun i u hu hi => by
    rw [← h4, Nat.mul_one, List.getElem?_take_of_lt hi, Array.getElem?_toList] at hu
    exact hu
  have hC2 := hC.set j hcs ov rfl
  refine ⟨⟨_, _, by rw [List.length_set], by rw [List.length_set]; unfold maxLen; omega, fun _ => ⟨g, 0, rfl, fun i x hi => ?_⟩⟩, hg, ?_, hC.f j hcs⟩
  · rw [Nat.zero_add]
    have away : ∀ {u : Value} {y : List Int}, IntsAt W u y → IntsAt (w1.setCell ⟨g, j, none⟩ ov) u y := fun {u y} hu => ints_away (hu.step hb) (fun hn b off n c e => by have := ints_low hu hn b off n c e; omega) j ov
    rw [List.getElem?_set] at hi
    by_cases e : j = i
    · subst e
      rw [if_pos rfl, if_pos hj] at hi
      cases hi
      exact ⟨ov, hC2.c j (by simp [hcs]), away ho⟩
    · rw [if_neg e] at hi
      obtain ⟨u, hu, hx⟩ := hI i x hi
      have hlt := (List.getElem?_eq_some_iff.1 hi).1
      exact ⟨u, hC2.c i (by rw [Array.getElem?_setIfInBounds_ne e]; exact hget i u hu hlt), away hx⟩
  · refine hC.c j (hget j _ ?_ hj)
    simp [hU, hj]
set_option maxRecDepth 100000 in
set_option maxHeartbeats 8000000 in
theorem one_few (v : Value) (L : List (List Int)) (i : Int) (ov : Value) (l : List Int) (w : World) (h : RowsAt w v L) (i0 : 0 ≤ i) (i9 : i ≤ 255) (ho : IntsAt w ov l) (hf : fewB L 60 = false) : Calls Try.prog 10 #[v, .int .u8 i, ov] w fun e w' => e = .returned (.bool true) ∧ Below w.heap.size w w' := by
  have HR0 := Lib.hid h
  obtain ⟨a, cap, rfl, hm, -⟩ := h
  have HO0 := Lib.hid ho
  obtain ⟨oa, oc, rfl, hom, -⟩ := ho
  unfold maxLen at hm hom
  replace hf := Lib.hid hf
  have HB0 := Lib.hid (Below.refl w.heap.size w)
  go_enter Try.func10, Try.ntmps10
  go_wp2_with fail
  refine (head_any _).mono ?_
  rintro e u1 ⟨rfl, b1⟩
  have FR_1 := Lib.hid (HR0.out.step b1)
  clear HR0
  have FO_2 := Lib.hid (HO0.out.step b1)
  clear HO0
  have HB3 := Lib.hid (keep2 b1 HB0.out)
  clear HB0 b1
  go_wp2_with fail
  refine (few_any _ L 60 _ FR_1.out).mono ?_
  rintro e w' ⟨rfl, rfl⟩
  rw [hf.out]
  go_wp2
  go_ret
  exact ⟨rfl, HB3.out⟩
set_option maxRecDepth 100000 in
set_option maxHeartbeats 8000000 in
theorem one_nil (v : Value) (L : List (List Int)) (i : Int) (ov : Value) (l : List Int) (w : World) (h : RowsAt w v L) (i0 : 0 ≤ i) (i9 : i ≤ 255) (ho : IntsAt w ov l) (hf : fewB L 60 = true) (hlen : L.length = 0) : Calls Try.prog 10 #[v, .int .u8 i, ov] w fun e w' => e = .returned (.bool true) ∧ Below w.heap.size w w' := by
  have HR0 := Lib.hid h
  obtain ⟨a, cap, rfl, hm, -⟩ := h
  have HO0 := Lib.hid ho
  obtain ⟨oa, oc, rfl, hom, -⟩ := ho
  unfold maxLen at hm hom
  replace hf := Lib.hid hf
  replace hlen := Lib.hid hlen
  have HB0 := Lib.hid (Below.refl w.heap.size w)
  go_enter Try.func10, Try.ntmps10
  go_wp2_with fail
  refine (head_any _).mono ?_
  rintro e u1 ⟨rfl, b1⟩
  have FR_1 := Lib.hid (HR0.out.step b1)
  clear HR0
  have FO_2 := Lib.hid (HO0.out.step b1)
  clear HO0
  have HB3 := Lib.hid (keep2 b1 HB0.out)
  clear HB0 b1
  go_wp2_with fail
  refine (few_any _ L 60 _ FR_1.out).mono ?_
  rintro e w' ⟨rfl, rfl⟩
  rw [hf.out]
  have z1 : ((L.length : Int) == 0) = true := by simp; exact List.length_eq_zero_iff.1 hlen.out
  go_wp2
  go_ret
  exact ⟨rfl, HB3.out⟩
set_option maxRecDepth 100000 in
set_option maxHeartbeats 8000000 in
theorem one_long (v : Value) (L : List (List Int)) (i : Int) (ov : Value) (l : List Int) (w : World) (h : RowsAt w v L) (i0 : 0 ≤ i) (i9 : i ≤ 255) (ho : IntsAt w ov l) (hf : fewB L 60 = true) (hlen : 0 < L.length) (hl : 40 < l.length) : Calls Try.prog 10 #[v, .int .u8 i, ov] w fun e w' => e = .returned (.bool true) ∧ Below w.heap.size w w' := by
  have HR0 := Lib.hid h
  obtain ⟨a, cap, rfl, hm, -⟩ := h
  have HO0 := Lib.hid ho
  obtain ⟨oa, oc, rfl, hom, -⟩ := ho
  unfold maxLen at hm hom
  replace hf := Lib.hid hf
  replace hlen := Lib.hid hlen
  replace hl := Lib.hid hl
  have HB0 := Lib.hid (Below.refl w.heap.size w)
  go_enter Try.func10, Try.ntmps10
  go_wp2_with fail
  refine (head_any _).mono ?_
  rintro e u1 ⟨rfl, b1⟩
  have FR_1 := Lib.hid (HR0.out.step b1)
  clear HR0
  have FO_2 := Lib.hid (HO0.out.step b1)
  clear HO0
  have HB3 := Lib.hid (keep2 b1 HB0.out)
  clear HB0 b1
  go_wp2_with fail
  refine (few_any _ L 60 _ FR_1.out).mono ?_
  rintro e w' ⟨rfl, rfl⟩
  rw [hf.out]
  have z6 : ¬ L.length = 0 := by have := hlen.out; omega
  have z5 : ¬ L = [] := fun h => z6 (by rw [h]; rfl)
  have z1 : ((L.length : Int) == 0) = false := by simp; intro e; have := hlen.out; rw [e] at this; simp at this
  have z3 : ((L.length : Int) = 0) = False := by simp; intro e; have := hlen.out; rw [e] at this; simp at this
  have z2 : decide ((l.length : Int) > 40) = true := by simp; have := hl.out; omega
  have z4 : decide ((40 : Int) < l.length) = true := by simp; have := hl.out; omega
  go_wp2
  go_ret
  exact ⟨rfl, HB3.out⟩
set_option maxRecDepth 100000 in
set_option maxHeartbeats 8000000 in
theorem one_main (v : Value) (L : List (List Int)) (i : Int) (ov : Value) (l : List Int) (w : World) (h : RowsAt w v L) (i0 : 0 ≤ i) (i9 : i ≤ 255) (ho : IntsAt w ov l) (hf : fewB L 60 = true) (hlen : 0 < L.length) (hl : l.length ≤ 40) : Calls Try.prog 10 #[v, .int .u8 i, ov] w fun e w' => e = .returned (.bool true) ∧ Below w.heap.size w w' := by
  have HR0 := Lib.hid h
  obtain ⟨a, cap, rfl, hm, -⟩ := h
  have HO0 := Lib.hid ho
  obtain ⟨oa, oc, rfl, hom, -⟩ := ho
  unfold maxLen at hm hom
  replace hf := Lib.hid hf
  replace hlen := Lib.hid hlen
  replace hl := Lib.hid hl
  have HB0 := Lib.hid (Below.refl w.heap.size w)
  go_enter Try.func10, Try.ntmps10
  go_wp2_with fail
  refine (head_any _).mono ?_
  rintro e u1 ⟨rfl, b1⟩
  have FR_1 := Lib.hid (HR0.out.step b1)
  clear HR0
  have FO_2 := Lib.hid (HO0.out.step b1)
  clear HO0
  have HB3 := Lib.hid (keep2 b1 HB0.out)
  clear HB0 b1
  go_wp2_with fail
  refine (few_any _ L 60 _ FR_1.out).mono ?_
  rintro e w' ⟨rfl, rfl⟩
  rw [hf.out]
  have z6 : ¬ L.length = 0 := by have := hlen.out; omega
  have z5 : ¬ L = [] := fun h => z6 (by rw [h]; rfl)
  have z1 : ((L.length : Int) == 0) = false := by simp; intro e; have := hlen.out; rw [e] at this; simp at this
  have z3 : ((L.length : Int) = 0) = False := by simp; intro e; have := hlen.out; rw [e] at this; simp at this
  have z2 : decide ((l.length : Int) > 40) = false := by simp; have := hl.out; omega
  have z4 : decide ((40 : Int) < l.length) = false := by simp; have := hl.out; omega
  have HF := Lib.hid (few_len hf.out)
  have h60 := Lib.hid (show L.length ≤ 60 by have := HF.out.1; omega)
  obtain ⟨j, hj⟩ := Int.eq_ofNat_of_zero_le (Int.emod_nonneg i (show (L.length : Int) ≠ 0 by have := hlen.out; omega))
  have hjl : j < L.length := by have := Int.emod_lt_of_pos i (show (0 : Int) < (L.length : Int) by have := hlen.out; omega); omega
  have q1 : i.tmod (L.length : Int) = (j : Int) := by rw [Int.tmod_eq_emod_of_nonneg i0]; exact hj
  have q1b : i % (L.length : Int) = (j : Int) := hj
  have q2 : wrap64 (j : Int) = (j : Int) := IntWalk.wrap64_in _ (by have := h60.out; omega)
  have q4 : wrap64 i = i := IntWalk.wrap64_in _ (by omega)
  clear hj
  replace hjl := Lib.hid hjl
  clear hm hom
  obtain ⟨a2, cap2, hva, -, hcs⟩ := FR_1.out
  obtain ⟨rfl, rfl⟩ : a = a2 ∧ cap = cap2 := by simpa using hva
  obtain ⟨b, off, rfl, -⟩ := hcs (by intro h; have := hlen.out; rw [h] at this; simp at this)
  clear hcs hva
  obtain ⟨U, hU1, hU2, hU3, hU4⟩ := rows_vals FR_1.out
  have HU1 := Lib.hid hU1
  have HU2 := Lib.hid hU2
  have HU3 := Lib.hid hU3
  have HU4 := Lib.hid hU4
  clear hU1 hU2 hU3 hU4
  obtain ⟨i0, hi, hz0, hz1, hz2⟩ := info_parts infoSl
  have c1 : 0 + L.length ≤ maxLen := by have := h60.out; unfold maxLen; omega
  have c2 : (0 + L.length) * 24 ≤ 140737488355328 := by have := h60.out; omega
  have HE := Lib.hid (show (u1.alloc (.cells #[] 22)).ownsRow u1.heap.size 22 1 (.slice (some ⟨u1.heap.size, 0, none⟩) 0 0) 0 [] from ⟨rfl, .inr ⟨u1.heap.size, 0, _, rfl, Nat.le_refl _, heap_alloc_new _ _, by omega, by unfold maxLen; omega, rfl, rfl⟩⟩)
  have HN := Lib.hid (show ∀ (k : Nat) (u : Value), U[k]? = some u → (u1.alloc (.cells #[] 22)).cell? ((⟨b, off, none⟩ : Addr).add k) = some u from fun k u hu => keep1 (al u1 _) (HU2.out k u hu))
  have HUL := Lib.hid (show U.length = L.length * 1 by rw [HU1.out, Nat.mul_one])
  go_wp2_with (at_builtin; refine wpList_append_own _ rfl _ _ 23 rfl u1.heap.size 22 i0 (.slice none 0 0) 1 24 Try.underlying23 hi hz0 hz1 hz2 rfl (by decide) _ _ _ rfl HE.out ⟨b, off, none⟩ L.length cap U rfl HUL.out HN.out HU3.out c1 c2 (by simp) ?_; intro v' w1 hown hgrow hnil; clear hnil; have HOW := Lib.hid (show w1.ownsRow u1.heap.size 22 1 v' L.length U by have := hown; rw [Nat.zero_add] at this; exact this); have HB1 := Lib.hid ((al u1 (.cells #[] 22)).grown hgrow (by simp) (fun k e => by cases e; exact Nat.le_refl _)); clear hown hgrow; obtain ⟨va, vc, rfl⟩ := row_slice HOW.out; obtain ⟨g, rfl⟩ : ∃ g, va = some ⟨g, 0, none⟩ := (by rcases HOW.out.2 with ⟨-, e⟩ | ⟨g, cp, cur, e, -⟩; (exfalso; have := hlen.out; omega); (exact ⟨g, by simp at e; exact e.1⟩)); have HMR := Lib.hid (more_rows HU1.out (by have := h60.out; omega) HU4.out FO_2.out HB1.out HOW.out hjl.out); have s1 := HMR.out.2.2.1; have s2 := HMR.out.2.2.2; have s3 := (World.block_lt_of_cell? _ _ s1 : g < w1.heap.size); have s4 : j < L.length := hjl.out; have s5 : (j : Int) < L.length := (by omega); have s6 : (0 : Int) ≤ (j : Int) := (by omega))
  have HBM := Lib.hid (HB1.out.setCell (p := ⟨g, j, none⟩) HMR.out.2.1 (.slice oa l.length oc))
  have FM := Lib.hid HMR.out.1
  clear z1 z2 z3 z4 z5 z6 q1 q1b q2 q4 s1 s2 s3 s4 s5 s6 c1 c2 HE HN HUL HU1 HU2 HU3 HU4 HMR HB1 HOW
  have FR_4 := Lib.hid (FR_1.out.step HBM.out)
  clear FR_1
  have FO_5 := Lib.hid (FO_2.out.step HBM.out)
  clear FO_2
  have HBN := Lib.hid (keep2 HBM.out HB3.out)
  clear HB3 HBM
  obtain ⟨wm, hwm⟩ : ∃ wm, w1.setCell ⟨g, j, none⟩ (.slice oa l.length oc) = wm := ⟨_, rfl⟩
  rw [hwm] at HBN FM FR_4 FO_5 ⊢
  clear hwm
  refine (path_any _ L j _ FR_4.out).mono ?_
  rintro e u2 ⟨pu, rfl, hp, b2⟩
  have FR_6 := Lib.hid (FR_4.out.step b2)
  clear FR_4
  have FO_7 := Lib.hid (FO_5.out.step b2)
  clear FO_5
  have FM_8 := Lib.hid (FM.out.step b2)
  clear FM
  have HB9 := Lib.hid (keep2 b2 HBN.out)
  clear HBN b2
  have h60v := h60.out
  rw [pthA_in hjl.out (by omega)] at hp
  clear h60v
  have FP_10 := Lib.hid (hp)
  clear hp
  have HC := Lib.hid (one_facts hjl.out h60.out l)
  obtain ⟨P, hP⟩ : ∃ P, pthL (rowsT (lvs L)) j = P := ⟨_, rfl⟩
  rw [hP] at HC FP_10
  clear hP
  obtain ⟨pa, pc, rfl⟩ : ∃ a c, pu = .slice a P.length c := by obtain ⟨a, c, h, -⟩ := FP_10.out; exact ⟨a, c, h⟩
  go_wp2_with fail
  refine (climb_any _ _ l P j _ FO_7.out FP_10.out (by have := hl.out; omega) (by have := hjl.out; have := h60.out; omega)).mono ?_
  rintro e u3 ⟨⟨cu, rfl, hcl⟩, b3⟩
  have FR_11 := Lib.hid (FR_6.out.step b3)
  clear FR_6
  have FO_12 := Lib.hid (FO_7.out.step b3)
  clear FO_7
  have FM_13 := Lib.hid (FM_8.out.step b3)
  clear FM_8
  have FP_14 := Lib.hid (FP_10.out.step b3)
  clear FP_10
  have HB15 := Lib.hid (keep2 b3 HB9.out)
  clear HB9 b3
  obtain ⟨ca, cc, rfl⟩ := hcl.slice
  clear hcl
  rw [HC.out.2.1]
  clear FP_14
  have HQ := Lib.hid HC.out.2.2
  clear HC
  obtain ⟨rm, hrm⟩ : ∃ r, rtL (L.set j l) = r := ⟨_, rfl⟩
  obtain ⟨rl, hrl⟩ : ∃ r, rtL L = r := ⟨_, rfl⟩
  obtain ⟨d1, hd1⟩ : ∃ r, Dg l = r := ⟨_, rfl⟩
  obtain ⟨d2, hd2⟩ : ∃ r, Dg (L.getD j []) = r := ⟨_, rfl⟩
  rw [hrm, hrl, hd1, hd2] at HQ
  rw [hrm]
  replace hrm := Lib.hid hrm
  replace hrl := Lib.hid hrl
  replace hd1 := Lib.hid hd1
  replace hd2 := Lib.hid hd2
  obtain ⟨a2, cap2, hva, -, hcs⟩ := FR_11.out
  obtain ⟨rfl, rfl⟩ : (some (⟨b, off, none⟩ : Addr)) = a2 ∧ cap = cap2 := by simpa using hva
  obtain ⟨b2, off2, hb2, hcs2⟩ := hcs (by intro h; have := hlen.out; rw [h] at this; simp at this)
  obtain ⟨rfl, rfl⟩ : b = b2 ∧ off = off2 := by simpa using hb2
  obtain ⟨u, x0, hu⟩ := hcs2 j _ (rows_get hjl.out)
  clear hcs hcs2 hva hb2
  have X0 := Lib.hid x0
  clear x0
  obtain ⟨x, hx⟩ : ∃ x, L.getD j [] = x := ⟨_, rfl⟩
  rw [hx] at hd2 hu
  clear hx
  have FU_16 := Lib.hid (hu)
  obtain ⟨ua, uc, rfl, -, -⟩ := hu
  clear hi hz0 hz1 hz2
  go_wp2_with fail
  by_cases hq : rm = rl
  · have HRQ := Lib.hid (show (rm == rl) = true by simpa using hq)
    have HDQ := Lib.hid (show (d1 == d2) = true by simpa using HQ.out.1 hq)
    clear hq HQ
    obtain ⟨lit, hlit⟩ : ∃ lit : (Nat → Value) → Act, lit = fun vs => { tmps := List.toArray (Value.slice (some { block := b, off := off }) L.length cap :: Value.int IntKind.u8 i :: Value.slice oa l.length oc :: undef :: undef :: undef :: vs 23 :: Value.bool true :: Value.int IntKind.i64 (j : Int) :: Value.slice (some { block := g, off := 0 }) L.length vc :: Value.int IntKind.i64 rm :: Value.slice ca (clL l ((j : Int)) P).length cc :: Value.bool true :: Value.slice (some { block := b, off := off }) L.length cap :: Value.bool true :: Value.bool false :: Value.bool false :: Value.slice (some { block := b, off := off }) L.length cap :: Value.int IntKind.i64 (L.length : Int) :: Value.bool false :: Value.bool false :: Value.bool false :: Value.slice oa l.length oc :: Value.int IntKind.i64 (l.length : Int) :: Value.bool false :: Value.bool false :: undef :: Value.int IntKind.u8 i :: Value.int IntKind.i64 i :: Value.slice (some { block := b, off := off }) L.length cap :: Value.int IntKind.i64 (L.length : Int) :: Value.int IntKind.i64 (j : Int) :: Value.slice (some { block := u1.heap.size, off := 0 }) 0 0 :: Value.slice (some { block := b, off := off }) L.length cap :: Value.slice (some { block := g, off := 0 }) L.length vc :: Value.slice (some { block := g, off := 0 }) L.length vc :: Value.int IntKind.i64 (j : Int) :: Value.slice oa l.length oc :: Value.pointer (some { block := g, off := j }) :: Value.tuple #[Value.int IntKind.i64 rm, Value.slice ca (clL l ((j : Int)) P).length cc] :: Value.slice oa l.length oc :: Value.int IntKind.i64 (j : Int) :: Value.slice (some { block := b, off := off }) L.length cap :: Value.int IntKind.i64 (j : Int) :: Value.slice pa P.length pc :: Value.tuple #[Value.int IntKind.i64 rm, Value.slice ca (clL l ((j : Int)) P).length cc] :: Value.int IntKind.i64 rm :: Value.slice ca (clL l ((j : Int)) P).length cc :: vs 0 :: vs 1 :: vs 2 :: vs 3 :: vs 4 :: vs 5 :: vs 6 :: vs 7 :: vs 8 :: vs 9 :: vs 10 :: vs 11 :: vs 12 :: vs 13 :: vs 14 :: vs 15 :: vs 16 :: vs 17 :: vs 18 :: vs 19 :: vs 20 :: vs 21 :: vs 22 :: []), defers := [] } := ⟨_, rfl⟩
    have HLIT := Lib.hid hlit
    clear hlit
    obtain ⟨val, hval⟩ : ∃ val : List Value, val = [.bool true, .bool true, .int .i64 rm, .slice (some ⟨g, 0, none⟩) L.length vc, .int .i64 rm, .bool true, .bool true, .bool true, .slice (some ⟨g, 0, none⟩) L.length vc, .int .i64 rm, .slice (some ⟨b, off, none⟩) L.length cap, .int .i64 rl, .bool true, .slice oa l.length oc, .int .i64 d1, .slice (some ⟨b, off, none⟩) L.length cap, .int .i64 j, .pointer (some ⟨b, off + j, none⟩), .slice ua x.length uc, .int .i64 d2, .bool true, .bool true, .bool true, .bool true] := ⟨_, rfl⟩
    have E0 := Lib.hid (show val.getD 0 undef = .bool true by rw [hval]; rfl)
    have E1 := Lib.hid (show val.getD 1 undef = .bool true by rw [hval]; rfl)
    have E2 := Lib.hid (show val.getD 2 undef = .int .i64 rm by rw [hval]; rfl)
    have E3 := Lib.hid (show val.getD 3 undef = .slice (some ⟨g, 0, none⟩) L.length vc by rw [hval]; rfl)
    have E4 := Lib.hid (show val.getD 4 undef = .int .i64 rm by rw [hval]; rfl)
    have E5 := Lib.hid (show val.getD 5 undef = .bool true by rw [hval]; rfl)
    have E6 := Lib.hid (show val.getD 6 undef = .bool true by rw [hval]; rfl)
    have E7 := Lib.hid (show val.getD 7 undef = .bool true by rw [hval]; rfl)
    have E8 := Lib.hid (show val.getD 8 undef = .slice (some ⟨g, 0, none⟩) L.length vc by rw [hval]; rfl)
    have E9 := Lib.hid (show val.getD 9 undef = .int .i64 rm by rw [hval]; rfl)
    have E10 := Lib.hid (show val.getD 10 undef = .slice (some ⟨b, off, none⟩) L.length cap by rw [hval]; rfl)
    have E11 := Lib.hid (show val.getD 11 undef = .int .i64 rl by rw [hval]; rfl)
    have E12 := Lib.hid (show val.getD 12 undef = .bool true by rw [hval]; rfl)
    have E13 := Lib.hid (show val.getD 13 undef = .slice oa l.length oc by rw [hval]; rfl)
    have E14 := Lib.hid (show val.getD 14 undef = .int .i64 d1 by rw [hval]; rfl)
    have E15 := Lib.hid (show val.getD 15 undef = .slice (some ⟨b, off, none⟩) L.length cap by rw [hval]; rfl)
    have E16 := Lib.hid (show val.getD 16 undef = .int .i64 j by rw [hval]; rfl)
    have E17 := Lib.hid (show val.getD 17 undef = .pointer (some ⟨b, off + j, none⟩) by rw [hval]; rfl)
    have E18 := Lib.hid (show val.getD 18 undef = .slice ua x.length uc by rw [hval]; rfl)
    have E19 := Lib.hid (show val.getD 19 undef = .int .i64 d2 by rw [hval]; rfl)
    have E20 := Lib.hid (show val.getD 20 undef = .bool true by rw [hval]; rfl)
    have E21 := Lib.hid (show val.getD 21 undef = .bool true by rw [hval]; rfl)
    have E22 := Lib.hid (show val.getD 22 undef = .bool true by rw [hval]; rfl)
    have E23 := Lib.hid (show val.getD 23 undef = .bool true by rw [hval]; rfl)
    clear hval
    obtain ⟨G, hG0⟩ : ∃ G : Nat → Value → World → Prop, G = (fun i v w => (v = val.getD i undef)) := ⟨_, rfl⟩
    have HG := Lib.hid hG0
    clear hG0
    refine region_inv (RS lit u3 G) (by kernel_rfl) (by decide +kernel) ?_ ?_ ?_
    · exact ⟨fun i => ([undef, undef, undef, undef, undef, undef, undef, undef, undef, undef, undef, undef, undef, undef, undef, undef, undef, undef, undef, undef, undef, undef, undef, Value.bool false] : List Value).getD i undef, (by rw [HLIT.out]; rfl), below_drew _ _, fun i h => by cases h⟩
    · refine ⟨?_, ?_, ?_, ?_, ?_, ?_, ?_, ?_, ?_, ?_, ?_, ?_, ?_, ?_, ?_, ?_, ?_, ?_, ?_, ?_, ?_, ?_, ?_, ?_, trivial⟩
      · intro bf ac wv hfb haf hJ K' hK
        obtain ⟨vs, rfl, hM, j4⟩ := hJ
        replace hK := Lib.hid hK
        replace hM := Lib.hid hM
        rw [HG.out] at j4
        replace j4 := Lib.hid j4
        clear haf hfb
        rw [HLIT.out]
        go_simp
        exact hK.out _ _ (RS.next (wv := wv) (vs := vs) 0 (x := .bool true) (by rw [HLIT.out]; rfl) (by rw [HG.out]; exact j4.out) hM.out (by rw [HG.out]; exact fun _ _ h => h) (by rw [HG.out]; exact E0.out.symm))
      · intro bf ac wv hfb haf hJ K' hK
        obtain ⟨vs, rfl, hM, j4⟩ := hJ
        replace hK := Lib.hid hK
        replace hM := Lib.hid hM
        rw [HG.out] at j4
        simp [Region.binds] at haf
        have e0 := ((j4 0 (by simp [haf]))).trans E0.out
        replace j4 := Lib.hid j4
        clear haf hfb
        rw [HLIT.out]
        go_simp
        exact hK.out _ _ (RS.next (wv := wv) (vs := vs) 1 (x := .bool true) (by rw [HLIT.out]; simp only [upv, e0, Nat.reduceBEq, cond_true, cond_false]) (by rw [HG.out]; exact j4.out) hM.out (by rw [HG.out]; exact fun _ _ h => h) (by rw [HG.out]; exact E1.out.symm))
      · intro bf ac wv hfb haf hJ K' hK
        obtain ⟨vs, rfl, hM, j4⟩ := hJ
        replace hK := Lib.hid hK
        replace hM := Lib.hid hM
        rw [HG.out] at j4
        simp [Region.binds] at haf
        have e1 := ((j4 1 (by simp [haf]))).trans E1.out
        replace j4 := Lib.hid j4
        clear haf hfb
        rw [HLIT.out]
        go_simp
        exact hK.out _ _ (RS.next (wv := wv) (vs := vs) 2 (x := .int .i64 rm) (by rw [HLIT.out]; simp only [upv, e1, Nat.reduceBEq, cond_true, cond_false]) (by rw [HG.out]; exact j4.out) hM.out (by rw [HG.out]; exact fun _ _ h => h) (by rw [HG.out]; exact E2.out.symm))
      · intro bf ac wv hfb haf hJ K' hK
        obtain ⟨vs, rfl, hM, j4⟩ := hJ
        replace hK := Lib.hid hK
        replace hM := Lib.hid hM
        rw [HG.out] at j4
        simp [Region.binds] at haf
        have e1 := ((j4 1 (by simp [haf]))).trans E1.out
        replace j4 := Lib.hid j4
        clear haf hfb
        rw [HLIT.out]
        go_simp
        exact hK.out _ _ (RS.next (wv := wv) (vs := vs) 3 (x := .slice (some ⟨g, 0, none⟩) L.length vc) (by rw [HLIT.out]; simp only [upv, e1, Nat.reduceBEq, cond_true, cond_false]) (by rw [HG.out]; exact j4.out) hM.out (by rw [HG.out]; exact fun _ _ h => h) (by rw [HG.out]; exact E3.out.symm))
      · intro bf ac wv hfb haf hJ K' hK
        obtain ⟨vs, rfl, hM, j4⟩ := hJ
        replace hK := Lib.hid hK
        replace hM := Lib.hid hM
        rw [HG.out] at j4
        simp [Region.binds] at haf
        have e1 := ((j4 1 (by simp [haf]))).trans E1.out
        have e3 := ((j4 3 (by simp [haf]))).trans E3.out
        replace j4 := Lib.hid j4
        clear haf hfb
        rw [HLIT.out]
        go_simp
        go_at_call 23
        refine (root_any _ (L.set j l) _ (FM_13.out.step hM.out)).mono ?_
        rintro e w4 ⟨rfl, b4⟩
        rw [hrm.out]
        exact hK.out _ _ (RS.next (wv := wv) (vs := vs) 4 (x := .int .i64 rm) (by rw [HLIT.out]; simp only [upv, e1, e3, Nat.reduceBEq, cond_true, cond_false]) (by rw [HG.out]; exact j4.out) (keep2 b4 hM.out) (by rw [HG.out]; exact fun _ _ h => h) (by rw [HG.out]; exact E4.out.symm))
      · intro bf ac wv hfb haf hJ K' hK
        obtain ⟨vs, rfl, hM, j4⟩ := hJ
        replace hK := Lib.hid hK
        replace hM := Lib.hid hM
        rw [HG.out] at j4
        simp [Region.binds] at haf
        have e1 := ((j4 1 (by simp [haf]))).trans E1.out
        have e2 := ((j4 2 (by simp [haf]))).trans E2.out
        have e4 := ((j4 4 (by simp [haf]))).trans E4.out
        replace j4 := Lib.hid j4
        clear haf hfb
        rw [HLIT.out]
        go_simp
        exact hK.out _ _ (RS.next (wv := wv) (vs := vs) 5 (x := .bool true) (by rw [HLIT.out]; simp only [upv, e1, e2, e4, Nat.reduceBEq, cond_true, cond_false]) (by rw [HG.out]; exact j4.out) hM.out (by rw [HG.out]; exact fun _ _ h => h) (by rw [HG.out]; exact E5.out.symm))
      · intro bf ac wv hfb haf hJ K' hK
        obtain ⟨vs, rfl, hM, j4⟩ := hJ
        replace hK := Lib.hid hK
        replace hM := Lib.hid hM
        rw [HG.out] at j4
        simp [Region.binds] at haf
        have e1 := ((j4 1 (by simp [haf]))).trans E1.out
        have e5 := ((j4 5 (by simp [haf]))).trans E5.out
        replace j4 := Lib.hid j4
        clear haf hfb
        rw [HLIT.out]
        go_simp
        exact hK.out _ _ (RS.next (wv := wv) (vs := vs) 6 (x := .bool true) (by rw [HLIT.out]; simp only [upv, e1, e5, Nat.reduceBEq, cond_true, cond_false]) (by rw [HG.out]; exact j4.out) hM.out (by rw [HG.out]; exact fun _ _ h => h) (by rw [HG.out]; exact E6.out.symm))
      · intro bf ac wv hfb haf hJ K' hK
        obtain ⟨vs, rfl, hM, j4⟩ := hJ
        replace hK := Lib.hid hK
        replace hM := Lib.hid hM
        rw [HG.out] at j4
        simp [Region.binds] at haf
        have e6 := ((j4 6 (by simp [haf]))).trans E6.out
        replace j4 := Lib.hid j4
        clear haf hfb
        rw [HLIT.out]
        go_simp
        exact hK.out _ _ (RS.next (wv := wv) (vs := vs) 7 (x := .bool true) (by rw [HLIT.out]; simp only [upv, e6, Nat.reduceBEq, cond_true, cond_false]) (by rw [HG.out]; exact j4.out) hM.out (by rw [HG.out]; exact fun _ _ h => h) (by rw [HG.out]; exact E7.out.symm))
      · intro bf ac wv hfb haf hJ K' hK
        obtain ⟨vs, rfl, hM, j4⟩ := hJ
        replace hK := Lib.hid hK
        replace hM := Lib.hid hM
        rw [HG.out] at j4
        simp [Region.binds] at haf
        have e7 := ((j4 7 (by simp [haf]))).trans E7.out
        replace j4 := Lib.hid j4
        clear haf hfb
        rw [HLIT.out]
        go_simp
        exact hK.out _ _ (RS.next (wv := wv) (vs := vs) 8 (x := .slice (some ⟨g, 0, none⟩) L.length vc) (by rw [HLIT.out]; simp only [upv, e7, Nat.reduceBEq, cond_true, cond_false]) (by rw [HG.out]; exact j4.out) hM.out (by rw [HG.out]; exact fun _ _ h => h) (by rw [HG.out]; exact E8.out.symm))
      · intro bf ac wv hfb haf hJ K' hK
        obtain ⟨vs, rfl, hM, j4⟩ := hJ
        replace hK := Lib.hid hK
        replace hM := Lib.hid hM
        rw [HG.out] at j4
        simp [Region.binds] at haf
        have e7 := ((j4 7 (by simp [haf]))).trans E7.out
        have e8 := ((j4 8 (by simp [haf]))).trans E8.out
        replace j4 := Lib.hid j4
        clear haf hfb
        rw [HLIT.out]
        go_simp
        go_at_call 23
        refine (root_any _ (L.set j l) _ (FM_13.out.step hM.out)).mono ?_
        rintro e w4 ⟨rfl, b4⟩
        rw [hrm.out]
        exact hK.out _ _ (RS.next (wv := wv) (vs := vs) 9 (x := .int .i64 rm) (by rw [HLIT.out]; simp only [upv, e7, e8, Nat.reduceBEq, cond_true, cond_false]) (by rw [HG.out]; exact j4.out) (keep2 b4 hM.out) (by rw [HG.out]; exact fun _ _ h => h) (by rw [HG.out]; exact E9.out.symm))
      · intro bf ac wv hfb haf hJ K' hK
        obtain ⟨vs, rfl, hM, j4⟩ := hJ
        replace hK := Lib.hid hK
        replace hM := Lib.hid hM
        rw [HG.out] at j4
        simp [Region.binds] at haf
        have e7 := ((j4 7 (by simp [haf]))).trans E7.out
        replace j4 := Lib.hid j4
        clear haf hfb
        rw [HLIT.out]
        go_simp
        exact hK.out _ _ (RS.next (wv := wv) (vs := vs) 10 (x := .slice (some ⟨b, off, none⟩) L.length cap) (by rw [HLIT.out]; simp only [upv, e7, Nat.reduceBEq, cond_true, cond_false]) (by rw [HG.out]; exact j4.out) hM.out (by rw [HG.out]; exact fun _ _ h => h) (by rw [HG.out]; exact E10.out.symm))
      · intro bf ac wv hfb haf hJ K' hK
        obtain ⟨vs, rfl, hM, j4⟩ := hJ
        replace hK := Lib.hid hK
        replace hM := Lib.hid hM
        rw [HG.out] at j4
        simp [Region.binds] at haf
        have e7 := ((j4 7 (by simp [haf]))).trans E7.out
        have e10 := ((j4 10 (by simp [haf]))).trans E10.out
        replace j4 := Lib.hid j4
        clear haf hfb
        rw [HLIT.out]
        go_simp
        go_at_call 23
        refine (root_any _ L _ (FR_11.out.step hM.out)).mono ?_
        rintro e w4 ⟨rfl, b4⟩
        rw [hrl.out]
        exact hK.out _ _ (RS.next (wv := wv) (vs := vs) 11 (x := .int .i64 rl) (by rw [HLIT.out]; simp only [upv, e7, e10, Nat.reduceBEq, cond_true, cond_false]) (by rw [HG.out]; exact j4.out) (keep2 b4 hM.out) (by rw [HG.out]; exact fun _ _ h => h) (by rw [HG.out]; exact E11.out.symm))
      · intro bf ac wv hfb haf hJ K' hK
        obtain ⟨vs, rfl, hM, j4⟩ := hJ
        replace hK := Lib.hid hK
        replace hM := Lib.hid hM
        rw [HG.out] at j4
        simp [Region.binds] at haf
        have e7 := ((j4 7 (by simp [haf]))).trans E7.out
        have e9 := ((j4 9 (by simp [haf]))).trans E9.out
        have e11 := ((j4 11 (by simp [haf]))).trans E11.out
        replace j4 := Lib.hid j4
        clear haf hfb
        have q1 := HRQ.out
        have q2 : (rm = rl) = True := by have := HRQ.out; simpa using this
        rw [HLIT.out]
        go_simp
        exact hK.out _ _ (RS.next (wv := wv) (vs := vs) 12 (x := .bool true) (by rw [HLIT.out]; simp only [upv, e7, e9, e11, Nat.reduceBEq, cond_true, cond_false]) (by rw [HG.out]; exact j4.out) hM.out (by rw [HG.out]; exact fun _ _ h => h) (by rw [HG.out]; exact E12.out.symm))
      · intro bf ac wv hfb haf hJ K' hK
        obtain ⟨vs, rfl, hM, j4⟩ := hJ
        replace hK := Lib.hid hK
        replace hM := Lib.hid hM
        rw [HG.out] at j4
        simp [Region.binds] at haf
        have e7 := ((j4 7 (by simp [haf]))).trans E7.out
        replace j4 := Lib.hid j4
        clear haf hfb
        rw [HLIT.out]
        go_simp
        exact hK.out _ _ (RS.next (wv := wv) (vs := vs) 13 (x := .slice oa l.length oc) (by rw [HLIT.out]; simp only [upv, e7, Nat.reduceBEq, cond_true, cond_false]) (by rw [HG.out]; exact j4.out) hM.out (by rw [HG.out]; exact fun _ _ h => h) (by rw [HG.out]; exact E13.out.symm))
      · intro bf ac wv hfb haf hJ K' hK
        obtain ⟨vs, rfl, hM, j4⟩ := hJ
        replace hK := Lib.hid hK
        replace hM := Lib.hid hM
        rw [HG.out] at j4
        simp [Region.binds] at haf
        have e7 := ((j4 7 (by simp [haf]))).trans E7.out
        have e13 := ((j4 13 (by simp [haf]))).trans E13.out
        replace j4 := Lib.hid j4
        clear haf hfb
        rw [HLIT.out]
        go_simp
        go_at_call 15
        refine (sum_any _ l _ (FO_12.out.step hM.out)).mono ?_
        rintro e w4 ⟨rfl, rfl⟩
        have b4 := Below.refl wv.heap.size wv
        rw [hd1.out]
        exact hK.out _ _ (RS.next (wv := wv) (vs := vs) 14 (x := .int .i64 d1) (by rw [HLIT.out]; simp only [upv, e7, e13, Nat.reduceBEq, cond_true, cond_false]) (by rw [HG.out]; exact j4.out) (keep2 b4 hM.out) (by rw [HG.out]; exact fun _ _ h => h) (by rw [HG.out]; exact E14.out.symm))
      · intro bf ac wv hfb haf hJ K' hK
        obtain ⟨vs, rfl, hM, j4⟩ := hJ
        replace hK := Lib.hid hK
        replace hM := Lib.hid hM
        rw [HG.out] at j4
        simp [Region.binds] at haf
        have e7 := ((j4 7 (by simp [haf]))).trans E7.out
        replace j4 := Lib.hid j4
        clear haf hfb
        rw [HLIT.out]
        go_simp
        exact hK.out _ _ (RS.next (wv := wv) (vs := vs) 15 (x := .slice (some ⟨b, off, none⟩) L.length cap) (by rw [HLIT.out]; simp only [upv, e7, Nat.reduceBEq, cond_true, cond_false]) (by rw [HG.out]; exact j4.out) hM.out (by rw [HG.out]; exact fun _ _ h => h) (by rw [HG.out]; exact E15.out.symm))
      · intro bf ac wv hfb haf hJ K' hK
        obtain ⟨vs, rfl, hM, j4⟩ := hJ
        replace hK := Lib.hid hK
        replace hM := Lib.hid hM
        rw [HG.out] at j4
        simp [Region.binds] at haf
        have e7 := ((j4 7 (by simp [haf]))).trans E7.out
        replace j4 := Lib.hid j4
        clear haf hfb
        rw [HLIT.out]
        go_simp
        exact hK.out _ _ (RS.next (wv := wv) (vs := vs) 16 (x := .int .i64 j) (by rw [HLIT.out]; simp only [upv, e7, Nat.reduceBEq, cond_true, cond_false]) (by rw [HG.out]; exact j4.out) hM.out (by rw [HG.out]; exact fun _ _ h => h) (by rw [HG.out]; exact E16.out.symm))
      · intro bf ac wv hfb haf hJ K' hK
        obtain ⟨vs, rfl, hM, j4⟩ := hJ
        replace hK := Lib.hid hK
        replace hM := Lib.hid hM
        rw [HG.out] at j4
        simp [Region.binds] at haf
        have e7 := ((j4 7 (by simp [haf]))).trans E7.out
        have e15 := ((j4 15 (by simp [haf]))).trans E15.out
        have e16 := ((j4 16 (by simp [haf]))).trans E16.out
        replace j4 := Lib.hid j4
        clear haf hfb
        have hn1 : (j : Int) < L.length := by have := hjl.out; omega
        have hn2 : (0 : Int) ≤ (j : Int) := by omega
        have hn3 : j < L.length := hjl.out
        rw [HLIT.out]
        go_simp
        exact hK.out _ _ (RS.next (wv := wv) (vs := vs) 17 (x := .pointer (some ⟨b, off + j, none⟩)) (by rw [HLIT.out]; simp only [upv, e7, e15, e16, Nat.reduceBEq, cond_true, cond_false]) (by rw [HG.out]; exact j4.out) hM.out (by rw [HG.out]; exact fun _ _ h => h) (by rw [HG.out]; exact E17.out.symm))
      · intro bf ac wv hfb haf hJ K' hK
        obtain ⟨vs, rfl, hM, j4⟩ := hJ
        replace hK := Lib.hid hK
        replace hM := Lib.hid hM
        rw [HG.out] at j4
        simp [Region.binds] at haf
        have e7 := ((j4 7 (by simp [haf]))).trans E7.out
        have e17 := ((j4 17 (by simp [haf]))).trans E17.out
        replace j4 := Lib.hid j4
        clear haf hfb
        have xg := keep1 hM.out X0.out
        have xgz := World.block_lt_of_cell? _ _ xg
        have xgz : b < wv.heap.size := xgz
        rw [HLIT.out]
        go_simp
        exact hK.out _ _ (RS.next (wv := wv) (vs := vs) 18 (x := .slice ua x.length uc) (by rw [HLIT.out]; simp only [upv, e7, e17, Nat.reduceBEq, cond_true, cond_false]) (by rw [HG.out]; exact j4.out) hM.out (by rw [HG.out]; exact fun _ _ h => h) (by rw [HG.out]; exact E18.out.symm))
      · intro bf ac wv hfb haf hJ K' hK
        obtain ⟨vs, rfl, hM, j4⟩ := hJ
        replace hK := Lib.hid hK
        replace hM := Lib.hid hM
        rw [HG.out] at j4
        simp [Region.binds] at haf
        have e7 := ((j4 7 (by simp [haf]))).trans E7.out
        have e18 := ((j4 18 (by simp [haf]))).trans E18.out
        replace j4 := Lib.hid j4
        clear haf hfb
        rw [HLIT.out]
        go_simp
        go_at_call 15
        refine (sum_any _ x _ (FU_16.out.step hM.out)).mono ?_
        rintro e w4 ⟨rfl, rfl⟩
        have b4 := Below.refl wv.heap.size wv
        rw [hd2.out]
        exact hK.out _ _ (RS.next (wv := wv) (vs := vs) 19 (x := .int .i64 d2) (by rw [HLIT.out]; simp only [upv, e7, e18, Nat.reduceBEq, cond_true, cond_false]) (by rw [HG.out]; exact j4.out) (keep2 b4 hM.out) (by rw [HG.out]; exact fun _ _ h => h) (by rw [HG.out]; exact E19.out.symm))
      · intro bf ac wv hfb haf hJ K' hK
        obtain ⟨vs, rfl, hM, j4⟩ := hJ
        replace hK := Lib.hid hK
        replace hM := Lib.hid hM
        rw [HG.out] at j4
        simp [Region.binds] at haf
        have e7 := ((j4 7 (by simp [haf]))).trans E7.out
        have e14 := ((j4 14 (by simp [haf]))).trans E14.out
        have e19 := ((j4 19 (by simp [haf]))).trans E19.out
        replace j4 := Lib.hid j4
        clear haf hfb
        have q1 := HDQ.out
        have q2 : (d1 = d2) = True := by have := HDQ.out; simpa using this
        rw [HLIT.out]
        go_simp
        exact hK.out _ _ (RS.next (wv := wv) (vs := vs) 20 (x := .bool true) (by rw [HLIT.out]; simp only [upv, e7, e14, e19, Nat.reduceBEq, cond_true, cond_false]) (by rw [HG.out]; exact j4.out) hM.out (by rw [HG.out]; exact fun _ _ h => h) (by rw [HG.out]; exact E20.out.symm))
      · intro bf ac wv hfb haf hJ K' hK
        obtain ⟨vs, rfl, hM, j4⟩ := hJ
        replace hK := Lib.hid hK
        replace hM := Lib.hid hM
        rw [HG.out] at j4
        simp [Region.binds] at haf
        have e7 := ((j4 7 (by simp [haf]))).trans E7.out
        have e12 := ((j4 12 (by simp [haf]))).trans E12.out
        have e20 := ((j4 20 (by simp [haf]))).trans E20.out
        replace j4 := Lib.hid j4
        clear haf hfb
        rw [HLIT.out]
        go_simp
        exact hK.out _ _ (RS.next (wv := wv) (vs := vs) 21 (x := .bool true) (by rw [HLIT.out]; simp only [upv, e7, e12, e20, Nat.reduceBEq, cond_true, cond_false]) (by rw [HG.out]; exact j4.out) hM.out (by rw [HG.out]; exact fun _ _ h => h) (by rw [HG.out]; exact E21.out.symm))
      · intro bf ac wv hfb haf hJ K' hK
        obtain ⟨vs, rfl, hM, j4⟩ := hJ
        replace hK := Lib.hid hK
        replace hM := Lib.hid hM
        rw [HG.out] at j4
        simp [Region.binds] at haf
        have e7 := ((j4 7 (by simp [haf]))).trans E7.out
        have e21 := ((j4 21 (by simp [haf]))).trans E21.out
        replace j4 := Lib.hid j4
        clear haf hfb
        rw [HLIT.out]
        go_simp
        exact hK.out _ _ (RS.next (wv := wv) (vs := vs) 22 (x := .bool true) (by rw [HLIT.out]; simp only [upv, e7, e21, Nat.reduceBEq, cond_true, cond_false]) (by rw [HG.out]; exact j4.out) hM.out (by rw [HG.out]; exact fun _ _ h => h) (by rw [HG.out]; exact E22.out.symm))
      · intro bf ac wv hfb haf hJ K' hK
        obtain ⟨vs, rfl, hM, j4⟩ := hJ
        replace hK := Lib.hid hK
        replace hM := Lib.hid hM
        rw [HG.out] at j4
        simp [Region.binds] at haf
        have e22 := ((j4 22 (by simp [haf]))).trans E22.out
        replace j4 := Lib.hid j4
        clear haf hfb
        rw [HLIT.out]
        go_simp
        exact hK.out _ _ (RS.next (wv := wv) (vs := vs) 23 (x := .bool true) (by rw [HLIT.out]; simp only [upv, e22, Nat.reduceBEq, cond_true, cond_false]) (by rw [HG.out]; exact j4.out) hM.out (by rw [HG.out]; exact fun _ _ h => h) (by rw [HG.out]; exact E23.out.symm))
    · intro bf ac wv hall hJ
      obtain ⟨vs, rfl, hM, j4⟩ := hJ
      rw [HG.out] at j4
      have e23 := ((j4 23 (hall 23 (by decide)))).trans E23.out
      have HB9 := Lib.hid (keep2 hM HB15.out)
      clear hM hall j4
      rw [HLIT.out]
      dsimp only
      rw [e23]
      clear e23
      go_wp2
      go_ret
      exact ⟨rfl, HB9.out⟩
  · have HRQ := Lib.hid (show (rm == rl) = false by simpa using hq)
    have HDQ := Lib.hid (show (d1 == d2) = false by simpa using fun h => hq (HQ.out.2 h))
    clear hq HQ
    obtain ⟨lit, hlit⟩ : ∃ lit : (Nat → Value) → Act, lit = fun vs => { tmps := List.toArray (Value.slice (some { block := b, off := off }) L.length cap :: Value.int IntKind.u8 i :: Value.slice oa l.length oc :: undef :: undef :: undef :: vs 23 :: Value.bool true :: Value.int IntKind.i64 (j : Int) :: Value.slice (some { block := g, off := 0 }) L.length vc :: Value.int IntKind.i64 rm :: Value.slice ca (clL l ((j : Int)) P).length cc :: Value.bool true :: Value.slice (some { block := b, off := off }) L.length cap :: Value.bool true :: Value.bool false :: Value.bool false :: Value.slice (some { block := b, off := off }) L.length cap :: Value.int IntKind.i64 (L.length : Int) :: Value.bool false :: Value.bool false :: Value.bool false :: Value.slice oa l.length oc :: Value.int IntKind.i64 (l.length : Int) :: Value.bool false :: Value.bool false :: undef :: Value.int IntKind.u8 i :: Value.int IntKind.i64 i :: Value.slice (some { block := b, off := off }) L.length cap :: Value.int IntKind.i64 (L.length : Int) :: Value.int IntKind.i64 (j : Int) :: Value.slice (some { block := u1.heap.size, off := 0 }) 0 0 :: Value.slice (some { block := b, off := off }) L.length cap :: Value.slice (some { block := g, off := 0 }) L.length vc :: Value.slice (some { block := g, off := 0 }) L.length vc :: Value.int IntKind.i64 (j : Int) :: Value.slice oa l.length oc :: Value.pointer (some { block := g, off := j }) :: Value.tuple #[Value.int IntKind.i64 rm, Value.slice ca (clL l ((j : Int)) P).length cc] :: Value.slice oa l.length oc :: Value.int IntKind.i64 (j : Int) :: Value.slice (some { block := b, off := off }) L.length cap :: Value.int IntKind.i64 (j : Int) :: Value.slice pa P.length pc :: Value.tuple #[Value.int IntKind.i64 rm, Value.slice ca (clL l ((j : Int)) P).length cc] :: Value.int IntKind.i64 rm :: Value.slice ca (clL l ((j : Int)) P).length cc :: vs 0 :: vs 1 :: vs 2 :: vs 3 :: vs 4 :: vs 5 :: vs 6 :: vs 7 :: vs 8 :: vs 9 :: vs 10 :: vs 11 :: vs 12 :: vs 13 :: vs 14 :: vs 15 :: vs 16 :: vs 17 :: vs 18 :: vs 19 :: vs 20 :: vs 21 :: vs 22 :: []), defers := [] } := ⟨_, rfl⟩
    have HLIT := Lib.hid hlit
    clear hlit
    obtain ⟨val, hval⟩ : ∃ val : List Value, val = [.bool true, .bool true, .int .i64 rm, .slice (some ⟨g, 0, none⟩) L.length vc, .int .i64 rm, .bool true, .bool true, .bool true, .slice (some ⟨g, 0, none⟩) L.length vc, .int .i64 rm, .slice (some ⟨b, off, none⟩) L.length cap, .int .i64 rl, .bool false, .slice oa l.length oc, .int .i64 d1, .slice (some ⟨b, off, none⟩) L.length cap, .int .i64 j, .pointer (some ⟨b, off + j, none⟩), .slice ua x.length uc, .int .i64 d2, .bool false, .bool true, .bool true, .bool true] := ⟨_, rfl⟩
    have E0 := Lib.hid (show val.getD 0 undef = .bool true by rw [hval]; rfl)
    have E1 := Lib.hid (show val.getD 1 undef = .bool true by rw [hval]; rfl)
    have E2 := Lib.hid (show val.getD 2 undef = .int .i64 rm by rw [hval]; rfl)
    have E3 := Lib.hid (show val.getD 3 undef = .slice (some ⟨g, 0, none⟩) L.length vc by rw [hval]; rfl)
    have E4 := Lib.hid (show val.getD 4 undef = .int .i64 rm by rw [hval]; rfl)
    have E5 := Lib.hid (show val.getD 5 undef = .bool true by rw [hval]; rfl)
    have E6 := Lib.hid (show val.getD 6 undef = .bool true by rw [hval]; rfl)
    have E7 := Lib.hid (show val.getD 7 undef = .bool true by rw [hval]; rfl)
    have E8 := Lib.hid (show val.getD 8 undef = .slice (some ⟨g, 0, none⟩) L.length vc by rw [hval]; rfl)
    have E9 := Lib.hid (show val.getD 9 undef = .int .i64 rm by rw [hval]; rfl)
    have E10 := Lib.hid (show val.getD 10 undef = .slice (some ⟨b, off, none⟩) L.length cap by rw [hval]; rfl)
    have E11 := Lib.hid (show val.getD 11 undef = .int .i64 rl by rw [hval]; rfl)
    have E12 := Lib.hid (show val.getD 12 undef = .bool false by rw [hval]; rfl)
    have E13 := Lib.hid (show val.getD 13 undef = .slice oa l.length oc by rw [hval]; rfl)
    have E14 := Lib.hid (show val.getD 14 undef = .int .i64 d1 by rw [hval]; rfl)
    have E15 := Lib.hid (show val.getD 15 undef = .slice (some ⟨b, off, none⟩) L.length cap by rw [hval]; rfl)
    have E16 := Lib.hid (show val.getD 16 undef = .int .i64 j by rw [hval]; rfl)
    have E17 := Lib.hid (show val.getD 17 undef = .pointer (some ⟨b, off + j, none⟩) by rw [hval]; rfl)
    have E18 := Lib.hid (show val.getD 18 undef = .slice ua x.length uc by rw [hval]; rfl)
    have E19 := Lib.hid (show val.getD 19 undef = .int .i64 d2 by rw [hval]; rfl)
    have E20 := Lib.hid (show val.getD 20 undef = .bool false by rw [hval]; rfl)
    have E21 := Lib.hid (show val.getD 21 undef = .bool true by rw [hval]; rfl)
    have E22 := Lib.hid (show val.getD 22 undef = .bool true by rw [hval]; rfl)
    have E23 := Lib.hid (show val.getD 23 undef = .bool true by rw [hval]; rfl)
    clear hval
    obtain ⟨G, hG0⟩ : ∃ G : Nat → Value → World → Prop, G = (fun i v w => (v = val.getD i undef)) := ⟨_, rfl⟩
    have HG := Lib.hid hG0
    clear hG0
    refine region_inv (RS lit u3 G) (by kernel_rfl) (by decide +kernel) ?_ ?_ ?_
    · exact ⟨fun i => ([undef, undef, undef, undef, undef, undef, undef, undef, undef, undef, undef, undef, undef, undef, undef, undef, undef, undef, undef, undef, undef, undef, undef, Value.bool false] : List Value).getD i undef, (by rw [HLIT.out]; rfl), below_drew _ _, fun i h => by cases h⟩
    · refine ⟨?_, ?_, ?_, ?_, ?_, ?_, ?_, ?_, ?_, ?_, ?_, ?_, ?_, ?_, ?_, ?_, ?_, ?_, ?_, ?_, ?_, ?_, ?_, ?_, trivial⟩
      · intro bf ac wv hfb haf hJ K' hK
        obtain ⟨vs, rfl, hM, j4⟩ := hJ
        replace hK := Lib.hid hK
        replace hM := Lib.hid hM
        rw [HG.out] at j4
        replace j4 := Lib.hid j4
        clear haf hfb
        rw [HLIT.out]
        go_simp
        exact hK.out _ _ (RS.next (wv := wv) (vs := vs) 0 (x := .bool true) (by rw [HLIT.out]; rfl) (by rw [HG.out]; exact j4.out) hM.out (by rw [HG.out]; exact fun _ _ h => h) (by rw [HG.out]; exact E0.out.symm))
      · intro bf ac wv hfb haf hJ K' hK
        obtain ⟨vs, rfl, hM, j4⟩ := hJ
        replace hK := Lib.hid hK
        replace hM := Lib.hid hM
        rw [HG.out] at j4
        simp [Region.binds] at haf
        have e0 := ((j4 0 (by simp [haf]))).trans E0.out
        replace j4 := Lib.hid j4
        clear haf hfb
        rw [HLIT.out]
        go_simp
        exact hK.out _ _ (RS.next (wv := wv) (vs := vs) 1 (x := .bool true) (by rw [HLIT.out]; simp only [upv, e0, Nat.reduceBEq, cond_true, cond_false]) (by rw [HG.out]; exact j4.out) hM.out (by rw [HG.out]; exact fun _ _ h => h) (by rw [HG.out]; exact E1.out.symm))
      · intro bf ac wv hfb haf hJ K' hK
        obtain ⟨vs, rfl, hM, j4⟩ := hJ
        replace hK := Lib.hid hK
        replace hM := Lib.hid hM
        rw [HG.out] at j4
        simp [Region.binds] at haf
        have e1 := ((j4 1 (by simp [haf]))).trans E1.out
        replace j4 := Lib.hid j4
        clear haf hfb
        rw [HLIT.out]
        go_simp
        exact hK.out _ _ (RS.next (wv := wv) (vs := vs) 2 (x := .int .i64 rm) (by rw [HLIT.out]; simp only [upv, e1, Nat.reduceBEq, cond_true, cond_false]) (by rw [HG.out]; exact j4.out) hM.out (by rw [HG.out]; exact fun _ _ h => h) (by rw [HG.out]; exact E2.out.symm))
      · intro bf ac wv hfb haf hJ K' hK
        obtain ⟨vs, rfl, hM, j4⟩ := hJ
        replace hK := Lib.hid hK
        replace hM := Lib.hid hM
        rw [HG.out] at j4
        simp [Region.binds] at haf
        have e1 := ((j4 1 (by simp [haf]))).trans E1.out
        replace j4 := Lib.hid j4
        clear haf hfb
        rw [HLIT.out]
        go_simp
        exact hK.out _ _ (RS.next (wv := wv) (vs := vs) 3 (x := .slice (some ⟨g, 0, none⟩) L.length vc) (by rw [HLIT.out]; simp only [upv, e1, Nat.reduceBEq, cond_true, cond_false]) (by rw [HG.out]; exact j4.out) hM.out (by rw [HG.out]; exact fun _ _ h => h) (by rw [HG.out]; exact E3.out.symm))
      · intro bf ac wv hfb haf hJ K' hK
        obtain ⟨vs, rfl, hM, j4⟩ := hJ
        replace hK := Lib.hid hK
        replace hM := Lib.hid hM
        rw [HG.out] at j4
        simp [Region.binds] at haf
        have e1 := ((j4 1 (by simp [haf]))).trans E1.out
        have e3 := ((j4 3 (by simp [haf]))).trans E3.out
        replace j4 := Lib.hid j4
        clear haf hfb
        rw [HLIT.out]
        go_simp
        go_at_call 23
        refine (root_any _ (L.set j l) _ (FM_13.out.step hM.out)).mono ?_
        rintro e w4 ⟨rfl, b4⟩
        rw [hrm.out]
        exact hK.out _ _ (RS.next (wv := wv) (vs := vs) 4 (x := .int .i64 rm) (by rw [HLIT.out]; simp only [upv, e1, e3, Nat.reduceBEq, cond_true, cond_false]) (by rw [HG.out]; exact j4.out) (keep2 b4 hM.out) (by rw [HG.out]; exact fun _ _ h => h) (by rw [HG.out]; exact E4.out.symm))
      · intro bf ac wv hfb haf hJ K' hK
        obtain ⟨vs, rfl, hM, j4⟩ := hJ
        replace hK := Lib.hid hK
        replace hM := Lib.hid hM
        rw [HG.out] at j4
        simp [Region.binds] at haf
        have e1 := ((j4 1 (by simp [haf]))).trans E1.out
        have e2 := ((j4 2 (by simp [haf]))).trans E2.out
        have e4 := ((j4 4 (by simp [haf]))).trans E4.out
        replace j4 := Lib.hid j4
        clear haf hfb
        rw [HLIT.out]
        go_simp
        exact hK.out _ _ (RS.next (wv := wv) (vs := vs) 5 (x := .bool true) (by rw [HLIT.out]; simp only [upv, e1, e2, e4, Nat.reduceBEq, cond_true, cond_false]) (by rw [HG.out]; exact j4.out) hM.out (by rw [HG.out]; exact fun _ _ h => h) (by rw [HG.out]; exact E5.out.symm))
      · intro bf ac wv hfb haf hJ K' hK
        obtain ⟨vs, rfl, hM, j4⟩ := hJ
        replace hK := Lib.hid hK
        replace hM := Lib.hid hM
        rw [HG.out] at j4
        simp [Region.binds] at haf
        have e1 := ((j4 1 (by simp [haf]))).trans E1.out
        have e5 := ((j4 5 (by simp [haf]))).trans E5.out
        replace j4 := Lib.hid j4
        clear haf hfb
        rw [HLIT.out]
        go_simp
        exact hK.out _ _ (RS.next (wv := wv) (vs := vs) 6 (x := .bool true) (by rw [HLIT.out]; simp only [upv, e1, e5, Nat.reduceBEq, cond_true, cond_false]) (by rw [HG.out]; exact j4.out) hM.out (by rw [HG.out]; exact fun _ _ h => h) (by rw [HG.out]; exact E6.out.symm))
      · intro bf ac wv hfb haf hJ K' hK
        obtain ⟨vs, rfl, hM, j4⟩ := hJ
        replace hK := Lib.hid hK
        replace hM := Lib.hid hM
        rw [HG.out] at j4
        simp [Region.binds] at haf
        have e6 := ((j4 6 (by simp [haf]))).trans E6.out
        replace j4 := Lib.hid j4
        clear haf hfb
        rw [HLIT.out]
        go_simp
        exact hK.out _ _ (RS.next (wv := wv) (vs := vs) 7 (x := .bool true) (by rw [HLIT.out]; simp only [upv, e6, Nat.reduceBEq, cond_true, cond_false]) (by rw [HG.out]; exact j4.out) hM.out (by rw [HG.out]; exact fun _ _ h => h) (by rw [HG.out]; exact E7.out.symm))
      · intro bf ac wv hfb haf hJ K' hK
        obtain ⟨vs, rfl, hM, j4⟩ := hJ
        replace hK := Lib.hid hK
        replace hM := Lib.hid hM
        rw [HG.out] at j4
        simp [Region.binds] at haf
        have e7 := ((j4 7 (by simp [haf]))).trans E7.out
        replace j4 := Lib.hid j4
        clear haf hfb
        rw [HLIT.out]
        go_simp
        exact hK.out _ _ (RS.next (wv := wv) (vs := vs) 8 (x := .slice (some ⟨g, 0, none⟩) L.length vc) (by rw [HLIT.out]; simp only [upv, e7, Nat.reduceBEq, cond_true, cond_false]) (by rw [HG.out]; exact j4.out) hM.out (by rw [HG.out]; exact fun _ _ h => h) (by rw [HG.out]; exact E8.out.symm))
      · intro bf ac wv hfb haf hJ K' hK
        obtain ⟨vs, rfl, hM, j4⟩ := hJ
        replace hK := Lib.hid hK
        replace hM := Lib.hid hM
        rw [HG.out] at j4
        simp [Region.binds] at haf
        have e7 := ((j4 7 (by simp [haf]))).trans E7.out
        have e8 := ((j4 8 (by simp [haf]))).trans E8.out
        replace j4 := Lib.hid j4
        clear haf hfb
        rw [HLIT.out]
        go_simp
        go_at_call 23
        refine (root_any _ (L.set j l) _ (FM_13.out.step hM.out)).mono ?_
        rintro e w4 ⟨rfl, b4⟩
        rw [hrm.out]
        exact hK.out _ _ (RS.next (wv := wv) (vs := vs) 9 (x := .int .i64 rm) (by rw [HLIT.out]; simp only [upv, e7, e8, Nat.reduceBEq, cond_true, cond_false]) (by rw [HG.out]; exact j4.out) (keep2 b4 hM.out) (by rw [HG.out]; exact fun _ _ h => h) (by rw [HG.out]; exact E9.out.symm))
      · intro bf ac wv hfb haf hJ K' hK
        obtain ⟨vs, rfl, hM, j4⟩ := hJ
        replace hK := Lib.hid hK
        replace hM := Lib.hid hM
        rw [HG.out] at j4
        simp [Region.binds] at haf
        have e7 := ((j4 7 (by simp [haf]))).trans E7.out
        replace j4 := Lib.hid j4
        clear haf hfb
        rw [HLIT.out]
        go_simp
        exact hK.out _ _ (RS.next (wv := wv) (vs := vs) 10 (x := .slice (some ⟨b, off, none⟩) L.length cap) (by rw [HLIT.out]; simp only [upv, e7, Nat.reduceBEq, cond_true, cond_false]) (by rw [HG.out]; exact j4.out) hM.out (by rw [HG.out]; exact fun _ _ h => h) (by rw [HG.out]; exact E10.out.symm))
      · intro bf ac wv hfb haf hJ K' hK
        obtain ⟨vs, rfl, hM, j4⟩ := hJ
        replace hK := Lib.hid hK
        replace hM := Lib.hid hM
        rw [HG.out] at j4
        simp [Region.binds] at haf
        have e7 := ((j4 7 (by simp [haf]))).trans E7.out
        have e10 := ((j4 10 (by simp [haf]))).trans E10.out
        replace j4 := Lib.hid j4
        clear haf hfb
        rw [HLIT.out]
        go_simp
        go_at_call 23
        refine (root_any _ L _ (FR_11.out.step hM.out)).mono ?_
        rintro e w4 ⟨rfl, b4⟩
        rw [hrl.out]
        exact hK.out _ _ (RS.next (wv := wv) (vs := vs) 11 (x := .int .i64 rl) (by rw [HLIT.out]; simp only [upv, e7, e10, Nat.reduceBEq, cond_true, cond_false]) (by rw [HG.out]; exact j4.out) (keep2 b4 hM.out) (by rw [HG.out]; exact fun _ _ h => h) (by rw [HG.out]; exact E11.out.symm))
      · intro bf ac wv hfb haf hJ K' hK
        obtain ⟨vs, rfl, hM, j4⟩ := hJ
        replace hK := Lib.hid hK
        replace hM := Lib.hid hM
        rw [HG.out] at j4
        simp [Region.binds] at haf
        have e7 := ((j4 7 (by simp [haf]))).trans E7.out
        have e9 := ((j4 9 (by simp [haf]))).trans E9.out
        have e11 := ((j4 11 (by simp [haf]))).trans E11.out
        replace j4 := Lib.hid j4
        clear haf hfb
        have q1 := HRQ.out
        have q2 : (rm = rl) = False := by have := HRQ.out; simpa using this
        rw [HLIT.out]
        go_simp
        exact hK.out _ _ (RS.next (wv := wv) (vs := vs) 12 (x := .bool false) (by rw [HLIT.out]; simp only [upv, e7, e9, e11, Nat.reduceBEq, cond_true, cond_false]) (by rw [HG.out]; exact j4.out) hM.out (by rw [HG.out]; exact fun _ _ h => h) (by rw [HG.out]; exact E12.out.symm))
      · intro bf ac wv hfb haf hJ K' hK
        obtain ⟨vs, rfl, hM, j4⟩ := hJ
        replace hK := Lib.hid hK
        replace hM := Lib.hid hM
        rw [HG.out] at j4
        simp [Region.binds] at haf
        have e7 := ((j4 7 (by simp [haf]))).trans E7.out
        replace j4 := Lib.hid j4
        clear haf hfb
        rw [HLIT.out]
        go_simp
        exact hK.out _ _ (RS.next (wv := wv) (vs := vs) 13 (x := .slice oa l.length oc) (by rw [HLIT.out]; simp only [upv, e7, Nat.reduceBEq, cond_true, cond_false]) (by rw [HG.out]; exact j4.out) hM.out (by rw [HG.out]; exact fun _ _ h => h) (by rw [HG.out]; exact E13.out.symm))
      · intro bf ac wv hfb haf hJ K' hK
        obtain ⟨vs, rfl, hM, j4⟩ := hJ
        replace hK := Lib.hid hK
        replace hM := Lib.hid hM
        rw [HG.out] at j4
        simp [Region.binds] at haf
        have e7 := ((j4 7 (by simp [haf]))).trans E7.out
        have e13 := ((j4 13 (by simp [haf]))).trans E13.out
        replace j4 := Lib.hid j4
        clear haf hfb
        rw [HLIT.out]
        go_simp
        go_at_call 15
        refine (sum_any _ l _ (FO_12.out.step hM.out)).mono ?_
        rintro e w4 ⟨rfl, rfl⟩
        have b4 := Below.refl wv.heap.size wv
        rw [hd1.out]
        exact hK.out _ _ (RS.next (wv := wv) (vs := vs) 14 (x := .int .i64 d1) (by rw [HLIT.out]; simp only [upv, e7, e13, Nat.reduceBEq, cond_true, cond_false]) (by rw [HG.out]; exact j4.out) (keep2 b4 hM.out) (by rw [HG.out]; exact fun _ _ h => h) (by rw [HG.out]; exact E14.out.symm))
      · intro bf ac wv hfb haf hJ K' hK
        obtain ⟨vs, rfl, hM, j4⟩ := hJ
        replace hK := Lib.hid hK
        replace hM := Lib.hid hM
        rw [HG.out] at j4
        simp [Region.binds] at haf
        have e7 := ((j4 7 (by simp [haf]))).trans E7.out
        replace j4 := Lib.hid j4
        clear haf hfb
        rw [HLIT.out]
        go_simp
        exact hK.out _ _ (RS.next (wv := wv) (vs := vs) 15 (x := .slice (some ⟨b, off, none⟩) L.length cap) (by rw [HLIT.out]; simp only [upv, e7, Nat.reduceBEq, cond_true, cond_false]) (by rw [HG.out]; exact j4.out) hM.out (by rw [HG.out]; exact fun _ _ h => h) (by rw [HG.out]; exact E15.out.symm))
      · intro bf ac wv hfb haf hJ K' hK
        obtain ⟨vs, rfl, hM, j4⟩ := hJ
        replace hK := Lib.hid hK
        replace hM := Lib.hid hM
        rw [HG.out] at j4
        simp [Region.binds] at haf
        have e7 := ((j4 7 (by simp [haf]))).trans E7.out
        replace j4 := Lib.hid j4
        clear haf hfb
        rw [HLIT.out]
        go_simp
        exact hK.out _ _ (RS.next (wv := wv) (vs := vs) 16 (x := .int .i64 j) (by rw [HLIT.out]; simp only [upv, e7, Nat.reduceBEq, cond_true, cond_false]) (by rw [HG.out]; exact j4.out) hM.out (by rw [HG.out]; exact fun _ _ h => h) (by rw [HG.out]; exact E16.out.symm))
      · intro bf ac wv hfb haf hJ K' hK
        obtain ⟨vs, rfl, hM, j4⟩ := hJ
        replace hK := Lib.hid hK
        replace hM := Lib.hid hM
        rw [HG.out] at j4
        simp [Region.binds] at haf
        have e7 := ((j4 7 (by simp [haf]))).trans E7.out
        have e15 := ((j4 15 (by simp [haf]))).trans E15.out
        have e16 := ((j4 16 (by simp [haf]))).trans E16.out
        replace j4 := Lib.hid j4
        clear haf hfb
        have hn1 : (j : Int) < L.length := by have := hjl.out; omega
        have hn2 : (0 : Int) ≤ (j : Int) := by omega
        have hn3 : j < L.length := hjl.out
        rw [HLIT.out]
        go_simp
        exact hK.out _ _ (RS.next (wv := wv) (vs := vs) 17 (x := .pointer (some ⟨b, off + j, none⟩)) (by rw [HLIT.out]; simp only [upv, e7, e15, e16, Nat.reduceBEq, cond_true, cond_false]) (by rw [HG.out]; exact j4.out) hM.out (by rw [HG.out]; exact fun _ _ h => h) (by rw [HG.out]; exact E17.out.symm))
      · intro bf ac wv hfb haf hJ K' hK
        obtain ⟨vs, rfl, hM, j4⟩ := hJ
        replace hK := Lib.hid hK
        replace hM := Lib.hid hM
        rw [HG.out] at j4
        simp [Region.binds] at haf
        have e7 := ((j4 7 (by simp [haf]))).trans E7.out
        have e17 := ((j4 17 (by simp [haf]))).trans E17.out
        replace j4 := Lib.hid j4
        clear haf hfb
        have xg := keep1 hM.out X0.out
        have xgz := World.block_lt_of_cell? _ _ xg
        have xgz : b < wv.heap.size := xgz
        rw [HLIT.out]
        go_simp
        exact hK.out _ _ (RS.next (wv := wv) (vs := vs) 18 (x := .slice ua x.length uc) (by rw [HLIT.out]; simp only [upv, e7, e17, Nat.reduceBEq, cond_true, cond_false]) (by rw [HG.out]; exact j4.out) hM.out (by rw [HG.out]; exact fun _ _ h => h) (by rw [HG.out]; exact E18.out.symm))
      · intro bf ac wv hfb haf hJ K' hK
        obtain ⟨vs, rfl, hM, j4⟩ := hJ
        replace hK := Lib.hid hK
        replace hM := Lib.hid hM
        rw [HG.out] at j4
        simp [Region.binds] at haf
        have e7 := ((j4 7 (by simp [haf]))).trans E7.out
        have e18 := ((j4 18 (by simp [haf]))).trans E18.out
        replace j4 := Lib.hid j4
        clear haf hfb
        rw [HLIT.out]
        go_simp
        go_at_call 15
        refine (sum_any _ x _ (FU_16.out.step hM.out)).mono ?_
        rintro e w4 ⟨rfl, rfl⟩
        have b4 := Below.refl wv.heap.size wv
        rw [hd2.out]
        exact hK.out _ _ (RS.next (wv := wv) (vs := vs) 19 (x := .int .i64 d2) (by rw [HLIT.out]; simp only [upv, e7, e18, Nat.reduceBEq, cond_true, cond_false]) (by rw [HG.out]; exact j4.out) (keep2 b4 hM.out) (by rw [HG.out]; exact fun _ _ h => h) (by rw [HG.out]; exact E19.out.symm))
      · intro bf ac wv hfb haf hJ K' hK
        obtain ⟨vs, rfl, hM, j4⟩ := hJ
        replace hK := Lib.hid hK
        replace hM := Lib.hid hM
        rw [HG.out] at j4
        simp [Region.binds] at haf
        have e7 := ((j4 7 (by simp [haf]))).trans E7.out
        have e14 := ((j4 14 (by simp [haf]))).trans E14.out
        have e19 := ((j4 19 (by simp [haf]))).trans E19.out
        replace j4 := Lib.hid j4
        clear haf hfb
        have q1 := HDQ.out
        have q2 : (d1 = d2) = False := by have := HDQ.out; simpa using this
        rw [HLIT.out]
        go_simp
        exact hK.out _ _ (RS.next (wv := wv) (vs := vs) 20 (x := .bool false) (by rw [HLIT.out]; simp only [upv, e7, e14, e19, Nat.reduceBEq, cond_true, cond_false]) (by rw [HG.out]; exact j4.out) hM.out (by rw [HG.out]; exact fun _ _ h => h) (by rw [HG.out]; exact E20.out.symm))
      · intro bf ac wv hfb haf hJ K' hK
        obtain ⟨vs, rfl, hM, j4⟩ := hJ
        replace hK := Lib.hid hK
        replace hM := Lib.hid hM
        rw [HG.out] at j4
        simp [Region.binds] at haf
        have e7 := ((j4 7 (by simp [haf]))).trans E7.out
        have e12 := ((j4 12 (by simp [haf]))).trans E12.out
        have e20 := ((j4 20 (by simp [haf]))).trans E20.out
        replace j4 := Lib.hid j4
        clear haf hfb
        rw [HLIT.out]
        go_simp
        exact hK.out _ _ (RS.next (wv := wv) (vs := vs) 21 (x := .bool true) (by rw [HLIT.out]; simp only [upv, e7, e12, e20, Nat.reduceBEq, cond_true, cond_false]) (by rw [HG.out]; exact j4.out) hM.out (by rw [HG.out]; exact fun _ _ h => h) (by rw [HG.out]; exact E21.out.symm))
      · intro bf ac wv hfb haf hJ K' hK
        obtain ⟨vs, rfl, hM, j4⟩ := hJ
        replace hK := Lib.hid hK
        replace hM := Lib.hid hM
        rw [HG.out] at j4
        simp [Region.binds] at haf
        have e7 := ((j4 7 (by simp [haf]))).trans E7.out
        have e21 := ((j4 21 (by simp [haf]))).trans E21.out
        replace j4 := Lib.hid j4
        clear haf hfb
        rw [HLIT.out]
        go_simp
        exact hK.out _ _ (RS.next (wv := wv) (vs := vs) 22 (x := .bool true) (by rw [HLIT.out]; simp only [upv, e7, e21, Nat.reduceBEq, cond_true, cond_false]) (by rw [HG.out]; exact j4.out) hM.out (by rw [HG.out]; exact fun _ _ h => h) (by rw [HG.out]; exact E22.out.symm))
      · intro bf ac wv hfb haf hJ K' hK
        obtain ⟨vs, rfl, hM, j4⟩ := hJ
        replace hK := Lib.hid hK
        replace hM := Lib.hid hM
        rw [HG.out] at j4
        simp [Region.binds] at haf
        have e22 := ((j4 22 (by simp [haf]))).trans E22.out
        replace j4 := Lib.hid j4
        clear haf hfb
        rw [HLIT.out]
        go_simp
        exact hK.out _ _ (RS.next (wv := wv) (vs := vs) 23 (x := .bool true) (by rw [HLIT.out]; simp only [upv, e22, Nat.reduceBEq, cond_true, cond_false]) (by rw [HG.out]; exact j4.out) hM.out (by rw [HG.out]; exact fun _ _ h => h) (by rw [HG.out]; exact E23.out.symm))
    · intro bf ac wv hall hJ
      obtain ⟨vs, rfl, hM, j4⟩ := hJ
      rw [HG.out] at j4
      have e23 := ((j4 23 (hall 23 (by decide)))).trans E23.out
      have HB9 := Lib.hid (keep2 hM HB15.out)
      clear hM hall j4
      rw [HLIT.out]
      dsimp only
      rw [e23]
      clear e23
      go_wp2
      go_ret
      exact ⟨rfl, HB9.out⟩
theorem one_any (v : Value) (L : List (List Int)) (i : Int) (ov : Value) (l : List Int) (w : World) (h : RowsAt w v L) (i0 : 0 ≤ i) (i9 : i ≤ 255) (ho : IntsAt w ov l) : Calls Try.prog 10 #[v, .int .u8 i, ov] w fun e w' => e = .returned (.bool true) ∧ Below w.heap.size w w' := by
  cases hf : fewB L 60
  · exact one_few v L i ov l w h i0 i9 ho hf
  · by_cases h0 : L.length = 0
    · exact one_nil v L i ov l w h i0 i9 ho hf h0
    · by_cases h1 : 40 < l.length
      · exact one_long v L i ov l w h i0 i9 ho hf (by omega) h1
      · exact one_main v L i ov l w h i0 i9 ho hf (by omega) (by omega)
end Go.Proofs.Ytkmplekfcalggaa
