/- The law 'BeliefOrders'. -/
import Derived.Test.YtigpopemllamdaaCf
import Derived.Deep.CutRange
namespace Go.Proofs.Ytigpopemllamdaa
open Go.RowKit

theorem meas17 {x : Int} (h : x ≤ 16) : (17 - intOf (.int .i64 (x + 1))).toNat < (17 - intOf (.int .i64 x)).toNat := by
  show (17 - (x + 1)).toNat < (17 - x).toNat
  omega
theorem rg17 {x : Int} (h : -1 ≤ x ∧ x ≤ 17) (h2 : x ≤ 16) : -1 ≤ x + 1 ∧ x + 1 ≤ 17 := by omega
/-- What the three answers say of the values. -/
structure OrF (V V1 V2 V3 : List Int) (L : List Od) (o : Od) (q v : Int) (Ea Eb Ec : Int) : Prop where
  s : Ea = 0 → ∀ x, V1.contains x = (decide (x = o.d) || V.contains x)
  c : Eb = 0 → ∀ x, V2.contains x = true → V.contains x = true
  r : Ec = 0 → ∀ x, V3.contains x = true → V.contains x = true
  k0 : Eb = 0 → ∃ k : Nat, fsP (cfP q) L = k ∧ k < L.length ∧ V2.contains (L.getD k zO).d = true
  k1 : Eb ≠ 0 → fsP (cfP q) L = -1
  z : Ec = 0 → V3.contains v = true
theorem con_iff {M : List Od} {x : Int} : (vof M).contains x = true ↔ ∃ o ∈ M, o.d = x := by rw [List.contains_iff_mem, (vof_prop M).2]
theorem orf {V : List Int} {L : List Od} (o : Od) (q v t : Int) (hw : isW V L = true) : OrF V (rV (snE V L o) (L ++ [o])) (rV (cnE V L q) (cfM q L)) (rV (rnE V L v t) (rpM L v t)) L o q v (snE V L o) (cnE V L q) (rnE V L v t) := by
  obtain ⟨w1, w2, w3, w4, w5, w6, w7⟩ := (isW_iff V L).1 hw
  have hV : V = vof L := by rw [w7, vof_rvl fun o ho => okR_d (w4 o ho)]
  rw [snE_W, cnE_W, rnE_W, if_pos hw, if_pos hw, if_pos hw]
  refine ⟨fun h x => ?_, fun h x hx => ?_, fun h x hx => ?_, fun h => ?_, fun h => ?_, fun h => ?_⟩
  · rw [h]
    unfold rV
    rw [if_pos rfl, hV, Bool.eq_iff_iff, con_iff, Bool.or_eq_true, con_iff, decide_eq_true_eq]
    constructor
    · rintro ⟨y, hy, rfl⟩
      rcases List.mem_append.1 hy with hy | hy
      · exact .inr ⟨y, hy, rfl⟩
      · obtain rfl : y = o := by simpa using hy
        exact .inl rfl
    · rintro (rfl | ⟨y, hy, rfl⟩)
      · exact ⟨o, by simp, rfl⟩
      · exact ⟨y, by simp [hy], rfl⟩
  · rw [h] at hx
    unfold rV at hx
    rw [if_pos rfl, con_iff] at hx
    rw [hV, con_iff]
    obtain ⟨y, hy, rfl⟩ := hx
    obtain ⟨i, -, hi, hp, hm⟩ := cf_some h
    rw [hm] at hy
    unfold cfO at hy
    rcases List.mem_append.1 hy with hy | hy
    · have h1 := (List.mem_filter.1 hy).1
      rcases List.mem_append.1 h1 with h1 | h1
      · exact ⟨y, List.mem_of_mem_take (flt_mem.1 h1).1, rfl⟩
      · exact ⟨y, List.mem_of_mem_drop h1, rfl⟩
    · obtain rfl : y = { L.getD i zO with c := -1 } := by simpa using hy
      exact ⟨L.getD i zO, getD_mem hi, rfl⟩
  · rw [h] at hx
    unfold rV at hx
    rw [if_pos rfl, con_iff] at hx
    obtain ⟨y, hy, rfl⟩ := hx
    obtain ⟨-, hv, -⟩ := rpE_ok h
    unfold rpM at hy
    rcases List.mem_cons.1 hy with rfl | hy
    · simpa using hv
    · rw [hV, con_iff]
      exact ⟨y, (flt_mem.1 (List.mem_filter.1 hy).1).1, rfl⟩
  · rw [h]
    obtain ⟨i, hf, hi, hp, hm⟩ := cf_some h
    refine ⟨i, by unfold fsP; rw [hf], hi, ?_⟩
    unfold rV
    rw [if_pos rfl, con_iff, hm]
    exact ⟨{ L.getD i zO with c := -1 }, by unfold cfO; simp, rfl⟩
  · unfold cfE at h
    unfold fsP
    cases hf : fsI (cfP q) L 0 with
    | none => rfl
    | some i => rw [hf] at h; exact absurd rfl h
  · rw [h]
    unfold rV
    rw [if_pos rfl, con_iff]
    exact ⟨⟨t, rpB t L, -1, v⟩, by unfold rpM; simp, rfl⟩
set_option maxRecDepth 100000 in
set_option maxHeartbeats 8000000 in
theorem can_q (u s : Value) (zs : List Int) (x : Int) (c : Bool) (hc : zs.contains x = c) (w : World) (h : IntsAt w u zs) (h9 : zs.length ≤ 300) :
    Calls Try.prog 20 #[.agg #[u, s], .int .i64 x] w fun e w' => e = .returned (.bool c) ∧ Below w.heap.size w w' := by
  subst hc
  exact can_any u s zs x w h (by omega)
set_option maxRecDepth 100000 in
set_option maxHeartbeats 8000000 in
theorem orders_no (va : Option Addr) (vc : Nat) (V : List Int) (sa : Option Addr) (sc : Nat) (L : List Od) (o : Od) (q v t : Int) (w : World) (h : Rb V L va vc sa sc w) (h9 : L.length ≤ maxLen) (h8 : V.length ≤ maxLen) (hw : isW V L = false) :
    Calls Try.prog 7 #[.agg #[.slice va V.length vc, .slice sa L.length sc], .agg #[.int .i64 o.a, .int .i64 o.b, .int .i64 o.c, .int .i64 o.d], .int .i64 q, .int .i64 v, .int .i64 t] w fun e w' => e = .returned (.bool true) ∧ Below w.heap.size w w' := by
  have H0 := Lib.hid (Below.refl w.heap.size w)
  have H1 := Lib.hid (h)
  clear h
  have H2 := Lib.hid (H1.out.step (al w (.cells #[.slice va V.length vc, .slice sa L.length sc] 25)))
  clear H1
  have H3 := Lib.hid (keep2 (al w (.cells #[.slice va V.length vc, .slice sa L.length sc] 25)) H0.out)
  clear H0
  have H4 := Lib.hid (Cs.new w (w.heap.size) #[.slice va V.length vc, .slice sa L.length sc] 25 (by simp))
  have H5 := Lib.hid (H2.out.step (al (w.alloc (.cells #[.slice va V.length vc, .slice sa L.length sc] 25)) (.cells #[.int .i64 o.a, .int .i64 o.b, .int .i64 o.c, .int .i64 o.d] 27)))
  clear H2
  have H6 := Lib.hid (H4.out.step (al (w.alloc (.cells #[.slice va V.length vc, .slice sa L.length sc] 25)) (.cells #[.int .i64 o.a, .int .i64 o.b, .int .i64 o.c, .int .i64 o.d] 27)))
  clear H4
  have H7 := Lib.hid (keep2 (al (w.alloc (.cells #[.slice va V.length vc, .slice sa L.length sc] 25)) (.cells #[.int .i64 o.a, .int .i64 o.b, .int .i64 o.c, .int .i64 o.d] 27)) H3.out)
  clear H3
  have H8 := Lib.hid (Cs.new (w.alloc (.cells #[.slice va V.length vc, .slice sa L.length sc] 25)) (w.heap.size + 1) #[.int .i64 o.a, .int .i64 o.b, .int .i64 o.c, .int .i64 o.d] 27 (by simp))
  go_enter Try.func7, Try.ntmps7
  go_wp2_with fail
  refine (head_any _).mono ?_
  rintro e u1 ⟨rfl, b1⟩
  have H9 := Lib.hid (H5.out.step b1)
  clear H5
  have H10 := Lib.hid (H6.out.step b1)
  clear H6
  have H11 := Lib.hid (H8.out.step b1)
  clear H8
  have H12 := Lib.hid (keep2 b1 H7.out)
  clear H7
  clear b1
  have xb0 : u1.cell? ⟨(w.heap.size), 0, none⟩ = some (.slice va V.length vc) := H10.out.c 0 rfl
  have xb1 : u1.cell? ⟨(w.heap.size), 1, none⟩ = some (.slice sa L.length sc) := H10.out.c 1 rfl
  have zb : (w.heap.size) < u1.heap.size := H10.out.2.2
  go_wp2_with fail
  refine (validR_any va vc V sa sc L _ H9.out h9 h8).mono ?_
  rintro e u2 ⟨rfl, b2⟩
  clear xb0 xb1 zb
  have H13 := Lib.hid (H9.out.step b2)
  clear H9
  have H14 := Lib.hid (H10.out.step b2)
  clear H10
  have H15 := Lib.hid (H11.out.step b2)
  clear H11
  have H16 := Lib.hid (keep2 b2 H12.out)
  clear H12
  clear b2
  rw [hw]
  go_wp2
  go_ret
  exact ⟨rfl, H16.out⟩
set_option maxRecDepth 100000 in
set_option maxHeartbeats 8000000 in
theorem orders_go (va : Option Addr) (vc : Nat) (V : List Int) (sa : Option Addr) (sc : Nat) (L : List Od) (o : Od) (q v t : Int) (w : World) (h : Rb V L va vc sa sc w) (h9 : L.length ≤ maxLen) (h8 : V.length ≤ maxLen) (hw : isW V L = true) {Ea Eb Ec : Int} {V1 V2 V3 : List Int} {M1 M2 M3 : List Od} (hE1 : snE V L o = Ea) (hV1 : rV Ea (L ++ [o]) = V1) (hM1 : rM Ea (L ++ [o]) = M1) (hE2 : cnE V L q = Eb) (hV2 : rV Eb (cfM q L) = V2) (hM2 : rM Eb (cfM q L) = M2) (hE3 : rnE V L v t = Ec) (hV3 : rV Ec (rpM L v t) = V3) (hM3 : rM Ec (rpM L v t) = M3) (hof : OrF V V1 V2 V3 L o q v Ea Eb Ec) (hl : V1.length ≤ 300 ∧ V2.length ≤ 300 ∧ V3.length ≤ 300) :
    Calls Try.prog 7 #[.agg #[.slice va V.length vc, .slice sa L.length sc], .agg #[.int .i64 o.a, .int .i64 o.b, .int .i64 o.c, .int .i64 o.d], .int .i64 q, .int .i64 v, .int .i64 t] w fun e w' => e = .returned (.bool true) ∧ Below w.heap.size w w' := by
  have HE1 := Lib.hid hE1
  have HV1 := Lib.hid hV1
  have HM1 := Lib.hid hM1
  have HE2 := Lib.hid hE2
  have HV2 := Lib.hid hV2
  have HM2 := Lib.hid hM2
  have HE3 := Lib.hid hE3
  have HV3 := Lib.hid hV3
  have HM3 := Lib.hid hM3
  clear hE1 hV1 hM1 hE2 hV2 hM2 hE3 hV3 hM3
  have HOF := Lib.hid hof
  have HL1 := Lib.hid hl.1
  have HL2 := Lib.hid hl.2.1
  have HL3 := Lib.hid hl.2.2
  have HSL := Lib.hid (show L.length ≤ 300 by have := (isW_len hw).1; omega)
  have HSV := Lib.hid (show V.length ≤ 300 by have := (isW_len hw).2.1; omega)
  clear hof hl
  have H0 := Lib.hid (Below.refl w.heap.size w)
  have H1 := Lib.hid (h)
  clear h
  have H2 := Lib.hid (H1.out.step (al w (.cells #[.slice va V.length vc, .slice sa L.length sc] 25)))
  clear H1
  have H3 := Lib.hid (keep2 (al w (.cells #[.slice va V.length vc, .slice sa L.length sc] 25)) H0.out)
  clear H0
  have H4 := Lib.hid (Cs.new w (w.heap.size) #[.slice va V.length vc, .slice sa L.length sc] 25 (by simp))
  have H5 := Lib.hid (H2.out.step (al (w.alloc (.cells #[.slice va V.length vc, .slice sa L.length sc] 25)) (.cells #[.int .i64 o.a, .int .i64 o.b, .int .i64 o.c, .int .i64 o.d] 27)))
  clear H2
  have H6 := Lib.hid (H4.out.step (al (w.alloc (.cells #[.slice va V.length vc, .slice sa L.length sc] 25)) (.cells #[.int .i64 o.a, .int .i64 o.b, .int .i64 o.c, .int .i64 o.d] 27)))
  clear H4
  have H7 := Lib.hid (keep2 (al (w.alloc (.cells #[.slice va V.length vc, .slice sa L.length sc] 25)) (.cells #[.int .i64 o.a, .int .i64 o.b, .int .i64 o.c, .int .i64 o.d] 27)) H3.out)
  clear H3
  have H8 := Lib.hid (Cs.new (w.alloc (.cells #[.slice va V.length vc, .slice sa L.length sc] 25)) (w.heap.size + 1) #[.int .i64 o.a, .int .i64 o.b, .int .i64 o.c, .int .i64 o.d] 27 (by simp))
  go_enter Try.func7, Try.ntmps7
  go_wp2_with fail
  refine (head_any _).mono ?_
  rintro e u1 ⟨rfl, b1⟩
  have H9 := Lib.hid (H5.out.step b1)
  clear H5
  have H10 := Lib.hid (H6.out.step b1)
  clear H6
  have H11 := Lib.hid (H8.out.step b1)
  clear H8
  have H12 := Lib.hid (keep2 b1 H7.out)
  clear H7
  clear b1
  have xb0 : u1.cell? ⟨(w.heap.size), 0, none⟩ = some (.slice va V.length vc) := H10.out.c 0 rfl
  have xb1 : u1.cell? ⟨(w.heap.size), 1, none⟩ = some (.slice sa L.length sc) := H10.out.c 1 rfl
  have zb : (w.heap.size) < u1.heap.size := H10.out.2.2
  go_wp2_with fail
  refine (validR_any va vc V sa sc L _ H9.out h9 h8).mono ?_
  rintro e u2 ⟨rfl, b2⟩
  clear xb0 xb1 zb
  have H13 := Lib.hid (H9.out.step b2)
  clear H9
  have H14 := Lib.hid (H10.out.step b2)
  clear H10
  have H15 := Lib.hid (H11.out.step b2)
  clear H11
  have H16 := Lib.hid (keep2 b2 H12.out)
  clear H12
  clear b2
  rw [hw]
  clear hw
  have xb0 : u2.cell? ⟨(w.heap.size), 0, none⟩ = some (.slice va V.length vc) := H14.out.c 0 rfl
  have xb1 : u2.cell? ⟨(w.heap.size), 1, none⟩ = some (.slice sa L.length sc) := H14.out.c 1 rfl
  have zb : (w.heap.size) < u2.heap.size := H14.out.2.2
  have xo0 : u2.cell? ⟨(w.heap.size + 1), 0, none⟩ = some (.int .i64 o.a) := H15.out.c 0 rfl
  have xo1 : u2.cell? ⟨(w.heap.size + 1), 1, none⟩ = some (.int .i64 o.b) := H15.out.c 1 rfl
  have xo2 : u2.cell? ⟨(w.heap.size + 1), 2, none⟩ = some (.int .i64 o.c) := H15.out.c 2 rfl
  have xo3 : u2.cell? ⟨(w.heap.size + 1), 3, none⟩ = some (.int .i64 o.d) := H15.out.c 3 rfl
  have zo : (w.heap.size + 1) < u2.heap.size := H15.out.2.2
  go_wp2_with fail
  refine (sent_q o HE1.out HV1.out HM1.out va vc sa sc _ H13.out HSL.out HSV.out).mono ?_
  rintro e u3 ⟨ua1, uc1, fa1, fc1, rfl, b3, hr⟩
  clear xb0 xb1 zb xo0 xo1 xo2 xo3 zo
  have H17 := Lib.hid (H13.out.step b3)
  clear H13
  have H18 := Lib.hid (H14.out.step b3)
  clear H14
  have H19 := Lib.hid (H15.out.step b3)
  clear H15
  have H20 := Lib.hid (keep2 b3 H16.out)
  clear H16
  clear b3
  have H21 := Lib.hid (hr)
  clear hr
  have H22 := Lib.hid (H17.out.step (al u3 (.cells #[.slice ua1 V1.length uc1, .slice fa1 M1.length fc1] 25)))
  clear H17
  have H23 := Lib.hid (H18.out.step (al u3 (.cells #[.slice ua1 V1.length uc1, .slice fa1 M1.length fc1] 25)))
  clear H18
  have H24 := Lib.hid (H19.out.step (al u3 (.cells #[.slice ua1 V1.length uc1, .slice fa1 M1.length fc1] 25)))
  clear H19
  have H25 := Lib.hid (H21.out.step (al u3 (.cells #[.slice ua1 V1.length uc1, .slice fa1 M1.length fc1] 25)))
  clear H21
  have H26 := Lib.hid (keep2 (al u3 (.cells #[.slice ua1 V1.length uc1, .slice fa1 M1.length fc1] 25)) H20.out)
  clear H20
  have H27 := Lib.hid (Cs.new u3 (u3.heap.size) #[.slice ua1 V1.length uc1, .slice fa1 M1.length fc1] 25 (by simp))
  have xb0 : (u3.alloc (.cells #[.slice ua1 V1.length uc1, .slice fa1 M1.length fc1] 25)).cell? ⟨(w.heap.size), 0, none⟩ = some (.slice va V.length vc) := H23.out.c 0 rfl
  have xb1 : (u3.alloc (.cells #[.slice ua1 V1.length uc1, .slice fa1 M1.length fc1] 25)).cell? ⟨(w.heap.size), 1, none⟩ = some (.slice sa L.length sc) := H23.out.c 1 rfl
  have zb : (w.heap.size) < (u3.alloc (.cells #[.slice ua1 V1.length uc1, .slice fa1 M1.length fc1] 25)).heap.size := H23.out.2.2
  go_wp2_with fail
  refine (confirmed_q q HE2.out HV2.out HM2.out va vc sa sc _ H22.out HSL.out HSV.out).mono ?_
  rintro e u4 ⟨ua2, uc2, fa2, fc2, rfl, b4, hr⟩
  clear xb0 xb1 zb
  have H28 := Lib.hid (H22.out.step b4)
  clear H22
  have H29 := Lib.hid (H23.out.step b4)
  clear H23
  have H30 := Lib.hid (H24.out.step b4)
  clear H24
  have H31 := Lib.hid (H25.out.step b4)
  clear H25
  have H32 := Lib.hid (H27.out.step b4)
  clear H27
  have H33 := Lib.hid (keep2 b4 H26.out)
  clear H26
  clear b4
  have H34 := Lib.hid (hr)
  clear hr
  have H35 := Lib.hid (H28.out.step (al u4 (.cells #[.slice ua2 V2.length uc2, .slice fa2 M2.length fc2] 25)))
  clear H28
  have H36 := Lib.hid (H29.out.step (al u4 (.cells #[.slice ua2 V2.length uc2, .slice fa2 M2.length fc2] 25)))
  clear H29
  have H37 := Lib.hid (H30.out.step (al u4 (.cells #[.slice ua2 V2.length uc2, .slice fa2 M2.length fc2] 25)))
  clear H30
  have H38 := Lib.hid (H31.out.step (al u4 (.cells #[.slice ua2 V2.length uc2, .slice fa2 M2.length fc2] 25)))
  clear H31
  have H39 := Lib.hid (H32.out.step (al u4 (.cells #[.slice ua2 V2.length uc2, .slice fa2 M2.length fc2] 25)))
  clear H32
  have H40 := Lib.hid (H34.out.step (al u4 (.cells #[.slice ua2 V2.length uc2, .slice fa2 M2.length fc2] 25)))
  clear H34
  have H41 := Lib.hid (keep2 (al u4 (.cells #[.slice ua2 V2.length uc2, .slice fa2 M2.length fc2] 25)) H33.out)
  clear H33
  have H42 := Lib.hid (Cs.new u4 (u4.heap.size) #[.slice ua2 V2.length uc2, .slice fa2 M2.length fc2] 25 (by simp))
  have xb0 : (u4.alloc (.cells #[.slice ua2 V2.length uc2, .slice fa2 M2.length fc2] 25)).cell? ⟨(w.heap.size), 0, none⟩ = some (.slice va V.length vc) := H36.out.c 0 rfl
  have xb1 : (u4.alloc (.cells #[.slice ua2 V2.length uc2, .slice fa2 M2.length fc2] 25)).cell? ⟨(w.heap.size), 1, none⟩ = some (.slice sa L.length sc) := H36.out.c 1 rfl
  have zb : (w.heap.size) < (u4.alloc (.cells #[.slice ua2 V2.length uc2, .slice fa2 M2.length fc2] 25)).heap.size := H36.out.2.2
  go_wp2_with fail
  refine (reported_q v t HE3.out HV3.out HM3.out va vc sa sc _ H35.out HSL.out HSV.out).mono ?_
  rintro e u5 ⟨ua3, uc3, fa3, fc3, rfl, b5, hr⟩
  clear xb0 xb1 zb
  have H43 := Lib.hid (H35.out.step b5)
  clear H35
  have H44 := Lib.hid (H36.out.step b5)
  clear H36
  have H45 := Lib.hid (H37.out.step b5)
  clear H37
  have H46 := Lib.hid (H38.out.step b5)
  clear H38
  have H47 := Lib.hid (H39.out.step b5)
  clear H39
  have H48 := Lib.hid (H40.out.step b5)
  clear H40
  have H49 := Lib.hid (H42.out.step b5)
  clear H42
  have H50 := Lib.hid (keep2 b5 H41.out)
  clear H41
  clear b5
  have H51 := Lib.hid (hr)
  clear hr
  have H52 := Lib.hid (H43.out.step (al u5 (.cells #[.slice ua3 V3.length uc3, .slice fa3 M3.length fc3] 25)))
  clear H43
  have H53 := Lib.hid (H44.out.step (al u5 (.cells #[.slice ua3 V3.length uc3, .slice fa3 M3.length fc3] 25)))
  clear H44
  have H54 := Lib.hid (H45.out.step (al u5 (.cells #[.slice ua3 V3.length uc3, .slice fa3 M3.length fc3] 25)))
  clear H45
  have H55 := Lib.hid (H46.out.step (al u5 (.cells #[.slice ua3 V3.length uc3, .slice fa3 M3.length fc3] 25)))
  clear H46
  have H56 := Lib.hid (H47.out.step (al u5 (.cells #[.slice ua3 V3.length uc3, .slice fa3 M3.length fc3] 25)))
  clear H47
  have H57 := Lib.hid (H48.out.step (al u5 (.cells #[.slice ua3 V3.length uc3, .slice fa3 M3.length fc3] 25)))
  clear H48
  have H58 := Lib.hid (H49.out.step (al u5 (.cells #[.slice ua3 V3.length uc3, .slice fa3 M3.length fc3] 25)))
  clear H49
  have H59 := Lib.hid (H51.out.step (al u5 (.cells #[.slice ua3 V3.length uc3, .slice fa3 M3.length fc3] 25)))
  clear H51
  have H60 := Lib.hid (keep2 (al u5 (.cells #[.slice ua3 V3.length uc3, .slice fa3 M3.length fc3] 25)) H50.out)
  clear H50
  have H61 := Lib.hid (Cs.new u5 (u5.heap.size) #[.slice ua3 V3.length uc3, .slice fa3 M3.length fc3] 25 (by simp))
  go_wp2_with fail
  obtain ⟨U, hU⟩ : ∃ z, (u5.alloc (.cells #[.slice ua3 V3.length uc3, .slice fa3 M3.length fc3] 25)) = z := ⟨_, rfl⟩
  rw [hU] at H52 H53 H54 H55 H56 H57 H58 H59 H61 H60 ⊢
  clear hU
  go_loopw [18] (fun iv wr => ∃ x : Int, -1 ≤ x ∧ x ≤ 17 ∧ iv = .int .i64 x ∧ Hid (Below U.heap.size U wr)) (fun iv _ => (17 - intOf iv).toNat)
  case atStart => exact ⟨-1, by omega, by omega, rfl, Lib.hid (Below.refl _ _)⟩
  case round =>
    obtain ⟨x, hx1, hx2, rfl, HW⟩ := hrel
    by_cases hlt : x ≤ 16
    rotate_left
    · skip
      have H112 := Lib.hid (H52.out.step HW.out)
      have H113 := Lib.hid (H53.out.step HW.out)
      have H114 := Lib.hid (H54.out.step HW.out)
      have H115 := Lib.hid (H55.out.step HW.out)
      have H116 := Lib.hid (H56.out.step HW.out)
      have H117 := Lib.hid (H57.out.step HW.out)
      have H118 := Lib.hid (H58.out.step HW.out)
      have H119 := Lib.hid (H59.out.step HW.out)
      have H120 := Lib.hid (H61.out.step HW.out)
      have H121 := HW
      have xb0 : wr.cell? ⟨(w.heap.size), 0, none⟩ = some (.slice va V.length vc) := H113.out.c 0 rfl
      have xb1 : wr.cell? ⟨(w.heap.size), 1, none⟩ = some (.slice sa L.length sc) := H113.out.c 1 rfl
      have zb : (w.heap.size) < wr.heap.size := H113.out.2.2
      go_wp2_with fail
      refine (find_any _ sa sc L q _ H112.out.2 h9).mono ?_
      rintro e u26 ⟨rfl, b26⟩
      clear xb0 xb1 zb
      have H122 := Lib.hid (H112.out.step b26)
      clear H112
      have H123 := Lib.hid (H113.out.step b26)
      clear H113
      have H124 := Lib.hid (H114.out.step b26)
      clear H114
      have H125 := Lib.hid (H115.out.step b26)
      clear H115
      have H126 := Lib.hid (H116.out.step b26)
      clear H116
      have H127 := Lib.hid (H117.out.step b26)
      clear H117
      have H128 := Lib.hid (H118.out.step b26)
      clear H118
      have H129 := Lib.hid (H119.out.step b26)
      clear H119
      have H130 := Lib.hid (H120.out.step b26)
      clear H120
      have H131 := Lib.hid (keep2 b26 H121.out)
      clear H121
      clear b26
      have HBE := Lib.hid (H60.out.trans (H131.out.mono H60.out.size))
      by_cases hz2 : Eb = 0
      · skip
        obtain ⟨k, hk, hkl, hkc⟩ := HOF.out.k0 hz2
        rw [hk]
        have HKC := Lib.hid hkc
        have g2 : decide (Eb = 0) = true := decide_eq_true hz2
        have g2b : (Eb == 0) = true := by rw [hz2]; rfl
        clear hkc hk hz2
        obtain ⟨ak, ck, hvk, -, -, hxk⟩ := H122.out.2
        obtain ⟨rfl, rfl⟩ : sa = ak ∧ sc = ck := by simpa using hvk
        obtain ⟨bk, ok, rfl, hyk⟩ := hxk (by intro e; rw [e] at hkl; simp at hkl)
        obtain ⟨-, -, -, yk⟩ := hyk k _ (od_get hkl)
        have ykz := World.block_lt_of_cell? _ _ yk
        have t1 : (k : Int) < (L.length : Int) := by omega
        have t2 : (0 : Int) ≤ (k : Int) := by omega
        have t3 : decide ((k : Int) < 0) = false := decide_eq_false (by omega)
        have t4 : ¬ (k : Int) ≤ 0 ∨ (k : Int) = 0 := by omega
        clear hxk hyk hvk
        generalize (L.getD k zO).d = dk at *
        by_cases hz3 : Ec = 0
        · skip
          have HZC := Lib.hid (HOF.out.z hz3)
          have g3 : (Ec != 0) = false := by rw [hz3]; rfl
          have g3b : (Ec == 0) = true := by rw [hz3]; rfl
          have g3c : decide (Ec = 0) = true := decide_eq_true hz3
          clear hz3
          have x20 : u26.cell? ⟨(u4.heap.size), 0, none⟩ = some (.slice ua2 V2.length uc2) := H128.out.c 0 rfl
          have x21 : u26.cell? ⟨(u4.heap.size), 1, none⟩ = some (.slice fa2 M2.length fc2) := H128.out.c 1 rfl
          have z2 : (u4.heap.size) < u26.heap.size := H128.out.2.2
          have x30 : u26.cell? ⟨(u5.heap.size), 0, none⟩ = some (.slice ua3 V3.length uc3) := H130.out.c 0 rfl
          have x31 : u26.cell? ⟨(u5.heap.size), 1, none⟩ = some (.slice fa3 M3.length fc3) := H130.out.c 1 rfl
          have z3 : (u5.heap.size) < u26.heap.size := H130.out.2.2
          have xb0 : u26.cell? ⟨(w.heap.size), 0, none⟩ = some (.slice va V.length vc) := H123.out.c 0 rfl
          have xb1 : u26.cell? ⟨(w.heap.size), 1, none⟩ = some (.slice (some ⟨bk, ok, none⟩) L.length sc) := H123.out.c 1 rfl
          have zb : (w.heap.size) < u26.heap.size := H123.out.2.2
          go_upto_region 15 with fail
          obtain ⟨wq, hwq⟩ : ∃ z, u26 = z := ⟨_, rfl⟩
          rw [hwq] at H122 H123 H124 H125 H126 H127 H128 H129 H130 HBE yk ⊢
          clear hwq x20 x21 z2 x30 x31 z3 xb0 xb1 zb
          obtain ⟨lit, hlit⟩ : ∃ lit : (Nat → Value) → Act, lit = fun vs => { tmps := List.toArray (Value.agg #[Value.slice va V.length vc, Value.slice (some { block := bk, off := ok }) L.length sc] :: Value.agg #[Value.int IntKind.i64 o.a, Value.int IntKind.i64 o.b, Value.int IntKind.i64 o.c, Value.int IntKind.i64 o.d] :: Value.int IntKind.i64 q :: Value.int IntKind.i64 v :: Value.int IntKind.i64 t :: Value.pointer (some { block := w.heap.size, off := 0 }) :: Value.pointer (some { block := w.heap.size + 1, off := 0 }) :: undef :: undef :: undef :: vs 32 :: Value.bool true :: Value.pointer (some { block := u3.heap.size, off := 0 }) :: Value.int IntKind.i64 Ea :: Value.pointer (some { block := u4.heap.size, off := 0 }) :: Value.int IntKind.i64 Eb :: Value.pointer (some { block := u5.heap.size, off := 0 }) :: Value.int IntKind.i64 Ec :: Value.int IntKind.i64 x :: Value.int IntKind.i64 (k : Int) :: Value.bool true :: Value.agg #[Value.slice va V.length vc, Value.slice (some { block := bk, off := ok }) L.length sc] :: Value.bool true :: Value.bool false :: undef :: Value.tuple #[Value.agg #[Value.slice ua1 V1.length uc1, Value.slice fa1 M1.length fc1], Value.int IntKind.i64 Ea] :: Value.agg #[Value.slice va V.length vc, Value.slice (some { block := bk, off := ok }) L.length sc] :: Value.agg #[Value.int IntKind.i64 o.a, Value.int IntKind.i64 o.b, Value.int IntKind.i64 o.c, Value.int IntKind.i64 o.d] :: Value.tuple #[Value.agg #[Value.slice ua1 V1.length uc1, Value.slice fa1 M1.length fc1], Value.int IntKind.i64 Ea] :: Value.agg #[Value.slice ua1 V1.length uc1, Value.slice fa1 M1.length fc1] :: Value.int IntKind.i64 Ea :: Value.tuple #[Value.agg #[Value.slice ua2 V2.length uc2, Value.slice fa2 M2.length fc2], Value.int IntKind.i64 Eb] :: Value.agg #[Value.slice va V.length vc, Value.slice (some { block := bk, off := ok }) L.length sc] :: Value.int IntKind.i64 q :: Value.tuple #[Value.agg #[Value.slice ua2 V2.length uc2, Value.slice fa2 M2.length fc2], Value.int IntKind.i64 Eb] :: Value.agg #[Value.slice ua2 V2.length uc2, Value.slice fa2 M2.length fc2] :: Value.int IntKind.i64 Eb :: Value.tuple #[Value.agg #[Value.slice ua3 V3.length uc3, Value.slice fa3 M3.length fc3], Value.int IntKind.i64 Ec] :: Value.agg #[Value.slice va V.length vc, Value.slice (some { block := bk, off := ok }) L.length sc] :: Value.int IntKind.i64 v :: Value.int IntKind.i64 t :: Value.tuple #[Value.agg #[Value.slice ua3 V3.length uc3, Value.slice fa3 M3.length fc3], Value.int IntKind.i64 Ec] :: Value.agg #[Value.slice ua3 V3.length uc3, Value.slice fa3 M3.length fc3] :: Value.int IntKind.i64 Ec :: Value.int IntKind.i64 x :: Value.bool false :: u46 :: u47 :: u48 :: u49 :: u50 :: u51 :: u52 :: u53 :: u54 :: u55 :: u56 :: u57 :: u58 :: u59 :: u60 :: u61 :: u62 :: u63 :: u64 :: u65 :: u66 :: u67 :: u68 :: u69 :: u70 :: u71 :: u72 :: u73 :: u74 :: u75 :: u76 :: u77 :: u78 :: u79 :: u80 :: u81 :: u82 :: u83 :: u84 :: u85 :: u86 :: u87 :: u88 :: u89 :: u90 :: u91 :: u92 :: Value.agg #[Value.slice va V.length vc, Value.slice (some { block := bk, off := ok }) L.length sc] :: Value.int IntKind.i64 q :: Value.int IntKind.i64 (k : Int) :: vs 0 :: vs 1 :: vs 2 :: vs 3 :: vs 4 :: vs 5 :: vs 6 :: vs 7 :: vs 8 :: vs 9 :: vs 10 :: vs 11 :: vs 12 :: vs 13 :: vs 14 :: vs 15 :: vs 16 :: vs 17 :: vs 18 :: vs 19 :: vs 20 :: vs 21 :: vs 22 :: vs 23 :: vs 24 :: vs 25 :: vs 26 :: vs 27 :: vs 28 :: vs 29 :: vs 30 :: vs 31 :: []), defers := [] } := ⟨_, rfl⟩
          have HLIT := Lib.hid hlit
          clear hlit
          obtain ⟨val, hval⟩ : ∃ val : List Value, val = [.bool true, .bool true, .int .i64 Eb, .bool true, .int .i64 (k : Int), .bool true, .bool true, .bool true, .bool true, .int .i64 (k : Int), .bool false, .bool false, .agg #[.slice ua2 V2.length uc2, .slice fa2 M2.length fc2], .pointer (some ⟨(w.heap.size), 1, none⟩), .slice (some ⟨bk, ok, none⟩) L.length sc, .int .i64 (k : Int), .int .i64 (k : Int), .pointer (some ⟨bk, ok + k * 4, none⟩), .pointer (some ⟨bk, ok + k * 4 + 3, none⟩), .int .i64 dk, .bool true, .bool true, .bool true, .bool true, .int .i64 Ec, .bool false, .bool false, .agg #[.slice ua3 V3.length uc3, .slice fa3 M3.length fc3], .int .i64 v, .bool true, .bool true, .bool true, .bool true] := ⟨_, rfl⟩
          have E0 := Lib.hid (show val.getD 0 undef = .bool true by rw [hval]; rfl)
          have E1 := Lib.hid (show val.getD 1 undef = .bool true by rw [hval]; rfl)
          have E2 := Lib.hid (show val.getD 2 undef = .int .i64 Eb by rw [hval]; rfl)
          have E3 := Lib.hid (show val.getD 3 undef = .bool true by rw [hval]; rfl)
          have E4 := Lib.hid (show val.getD 4 undef = .int .i64 (k : Int) by rw [hval]; rfl)
          have E5 := Lib.hid (show val.getD 5 undef = .bool true by rw [hval]; rfl)
          have E6 := Lib.hid (show val.getD 6 undef = .bool true by rw [hval]; rfl)
          have E7 := Lib.hid (show val.getD 7 undef = .bool true by rw [hval]; rfl)
          have E8 := Lib.hid (show val.getD 8 undef = .bool true by rw [hval]; rfl)
          have E9 := Lib.hid (show val.getD 9 undef = .int .i64 (k : Int) by rw [hval]; rfl)
          have E10 := Lib.hid (show val.getD 10 undef = .bool false by rw [hval]; rfl)
          have E11 := Lib.hid (show val.getD 11 undef = .bool false by rw [hval]; rfl)
          have E12 := Lib.hid (show val.getD 12 undef = .agg #[.slice ua2 V2.length uc2, .slice fa2 M2.length fc2] by rw [hval]; rfl)
          have E13 := Lib.hid (show val.getD 13 undef = .pointer (some ⟨(w.heap.size), 1, none⟩) by rw [hval]; rfl)
          have E14 := Lib.hid (show val.getD 14 undef = .slice (some ⟨bk, ok, none⟩) L.length sc by rw [hval]; rfl)
          have E15 := Lib.hid (show val.getD 15 undef = .int .i64 (k : Int) by rw [hval]; rfl)
          have E16 := Lib.hid (show val.getD 16 undef = .int .i64 (k : Int) by rw [hval]; rfl)
          have E17 := Lib.hid (show val.getD 17 undef = .pointer (some ⟨bk, ok + k * 4, none⟩) by rw [hval]; rfl)
          have E18 := Lib.hid (show val.getD 18 undef = .pointer (some ⟨bk, ok + k * 4 + 3, none⟩) by rw [hval]; rfl)
          have E19 := Lib.hid (show val.getD 19 undef = .int .i64 dk by rw [hval]; rfl)
          have E20 := Lib.hid (show val.getD 20 undef = .bool true by rw [hval]; rfl)
          have E21 := Lib.hid (show val.getD 21 undef = .bool true by rw [hval]; rfl)
          have E22 := Lib.hid (show val.getD 22 undef = .bool true by rw [hval]; rfl)
          have E23 := Lib.hid (show val.getD 23 undef = .bool true by rw [hval]; rfl)
          have E24 := Lib.hid (show val.getD 24 undef = .int .i64 Ec by rw [hval]; rfl)
          have E25 := Lib.hid (show val.getD 25 undef = .bool false by rw [hval]; rfl)
          have E26 := Lib.hid (show val.getD 26 undef = .bool false by rw [hval]; rfl)
          have E27 := Lib.hid (show val.getD 27 undef = .agg #[.slice ua3 V3.length uc3, .slice fa3 M3.length fc3] by rw [hval]; rfl)
          have E28 := Lib.hid (show val.getD 28 undef = .int .i64 v by rw [hval]; rfl)
          have E29 := Lib.hid (show val.getD 29 undef = .bool true by rw [hval]; rfl)
          have E30 := Lib.hid (show val.getD 30 undef = .bool true by rw [hval]; rfl)
          have E31 := Lib.hid (show val.getD 31 undef = .bool true by rw [hval]; rfl)
          have E32 := Lib.hid (show val.getD 32 undef = .bool true by rw [hval]; rfl)
          clear hval
          obtain ⟨G, hG0⟩ : ∃ G : Nat → Value → World → Prop, G = (fun i v w => (v = val.getD i undef)) := ⟨_, rfl⟩
          have HG := Lib.hid hG0
          clear hG0
          refine region_inv (RS lit wq G) (by kernel_rfl) (by decide +kernel) ?_ ?_ ?_
          · exact ⟨fun i => ([undef, undef, undef, undef, undef, undef, undef, undef, undef, undef, undef, undef, undef, undef, undef, undef, undef, undef, undef, undef, undef, undef, undef, undef, undef, undef, undef, undef, undef, undef, undef, undef, u10] : List Value).getD i undef, (by rw [HLIT.out]; rfl), below_drew _ _, fun i h => by cases h⟩
          · refine ⟨?_, ?_, ?_, ?_, ?_, ?_, ?_, ?_, ?_, ?_, ?_, ?_, ?_, ?_, ?_, ?_, ?_, ?_, ?_, ?_, ?_, ?_, ?_, ?_, ?_, ?_, ?_, ?_, ?_, ?_, ?_, ?_, ?_, trivial⟩
            · intro bf ac wv hfb haf hJ K' hK
              obtain ⟨vs, rfl, hM, j4⟩ := hJ
              replace hK := Lib.hid hK
              replace hM := Lib.hid hM
              rw [HG.out] at j4
              replace j4 := Lib.hid j4
              clear haf hfb
              rw [HLIT.out]
              go_simp
              exact hK.out _ _ (RS.next (wv := wv) (vs := vs) 0 (x := .bool true) (by rw [HLIT.out]; rfl) (by rw [HG.out]; exact j4.out) hM.out (by rw [HG.out]; exact fun _ _ h => h) (by rw [HG.out]; exact E0.out.symm))
            · intro bf ac wv hfb haf hJ K' hK
              obtain ⟨vs, rfl, hM, j4⟩ := hJ
              replace hK := Lib.hid hK
              replace hM := Lib.hid hM
              rw [HG.out] at j4
              simp [Region.binds] at haf
              have e0 := ((j4 0 (by simp [haf]))).trans E0.out
              replace j4 := Lib.hid j4
              clear haf hfb
              rw [HLIT.out]
              go_simp
              exact hK.out _ _ (RS.next (wv := wv) (vs := vs) 1 (x := .bool true) (by rw [HLIT.out]; simp only [upv, e0, Nat.reduceBEq, cond_true, cond_false]) (by rw [HG.out]; exact j4.out) hM.out (by rw [HG.out]; exact fun _ _ h => h) (by rw [HG.out]; exact E1.out.symm))
            · intro bf ac wv hfb haf hJ K' hK
              obtain ⟨vs, rfl, hM, j4⟩ := hJ
              replace hK := Lib.hid hK
              replace hM := Lib.hid hM
              rw [HG.out] at j4
              simp [Region.binds] at haf
              have e1 := ((j4 1 (by simp [haf]))).trans E1.out
              replace j4 := Lib.hid j4
              clear haf hfb
              rw [HLIT.out]
              go_simp
              exact hK.out _ _ (RS.next (wv := wv) (vs := vs) 2 (x := .int .i64 Eb) (by rw [HLIT.out]; simp only [upv, e1, Nat.reduceBEq, cond_true, cond_false]) (by rw [HG.out]; exact j4.out) hM.out (by rw [HG.out]; exact fun _ _ h => h) (by rw [HG.out]; exact E2.out.symm))
            · intro bf ac wv hfb haf hJ K' hK
              obtain ⟨vs, rfl, hM, j4⟩ := hJ
              replace hK := Lib.hid hK
              replace hM := Lib.hid hM
              rw [HG.out] at j4
              simp [Region.binds] at haf
              have e1 := ((j4 1 (by simp [haf]))).trans E1.out
              have e2 := ((j4 2 (by simp [haf]))).trans E2.out
              replace j4 := Lib.hid j4
              clear haf hfb
              rw [HLIT.out]
              go_simp
              exact hK.out _ _ (RS.next (wv := wv) (vs := vs) 3 (x := .bool true) (by rw [HLIT.out]; simp only [upv, e1, e2, Nat.reduceBEq, cond_true, cond_false]) (by rw [HG.out]; exact j4.out) hM.out (by rw [HG.out]; exact fun _ _ h => h) (by rw [HG.out]; exact E3.out.symm))
            · intro bf ac wv hfb haf hJ K' hK
              obtain ⟨vs, rfl, hM, j4⟩ := hJ
              replace hK := Lib.hid hK
              replace hM := Lib.hid hM
              rw [HG.out] at j4
              simp [Region.binds] at haf
              have e1 := ((j4 1 (by simp [haf]))).trans E1.out
              replace j4 := Lib.hid j4
              clear haf hfb
              rw [HLIT.out]
              go_simp
              exact hK.out _ _ (RS.next (wv := wv) (vs := vs) 4 (x := .int .i64 (k : Int)) (by rw [HLIT.out]; simp only [upv, e1, Nat.reduceBEq, cond_true, cond_false]) (by rw [HG.out]; exact j4.out) hM.out (by rw [HG.out]; exact fun _ _ h => h) (by rw [HG.out]; exact E4.out.symm))
            · intro bf ac wv hfb haf hJ K' hK
              obtain ⟨vs, rfl, hM, j4⟩ := hJ
              replace hK := Lib.hid hK
              replace hM := Lib.hid hM
              rw [HG.out] at j4
              simp [Region.binds] at haf
              have e1 := ((j4 1 (by simp [haf]))).trans E1.out
              have e4 := ((j4 4 (by simp [haf]))).trans E4.out
              replace j4 := Lib.hid j4
              clear haf hfb
              rw [HLIT.out]
              go_simp
              exact hK.out _ _ (RS.next (wv := wv) (vs := vs) 5 (x := .bool true) (by rw [HLIT.out]; simp only [upv, e1, e4, Nat.reduceBEq, cond_true, cond_false]) (by rw [HG.out]; exact j4.out) hM.out (by rw [HG.out]; exact fun _ _ h => h) (by rw [HG.out]; exact E5.out.symm))
            · intro bf ac wv hfb haf hJ K' hK
              obtain ⟨vs, rfl, hM, j4⟩ := hJ
              replace hK := Lib.hid hK
              replace hM := Lib.hid hM
              rw [HG.out] at j4
              simp [Region.binds] at haf
              have e1 := ((j4 1 (by simp [haf]))).trans E1.out
              have e3 := ((j4 3 (by simp [haf]))).trans E3.out
              have e5 := ((j4 5 (by simp [haf]))).trans E5.out
              replace j4 := Lib.hid j4
              clear haf hfb
              rw [HLIT.out]
              go_simp
              exact hK.out _ _ (RS.next (wv := wv) (vs := vs) 6 (x := .bool true) (by rw [HLIT.out]; simp only [upv, e1, e3, e5, Nat.reduceBEq, cond_true, cond_false]) (by rw [HG.out]; exact j4.out) hM.out (by rw [HG.out]; exact fun _ _ h => h) (by rw [HG.out]; exact E6.out.symm))
            · intro bf ac wv hfb haf hJ K' hK
              obtain ⟨vs, rfl, hM, j4⟩ := hJ
              replace hK := Lib.hid hK
              replace hM := Lib.hid hM
              rw [HG.out] at j4
              simp [Region.binds] at haf
              have e1 := ((j4 1 (by simp [haf]))).trans E1.out
              have e6 := ((j4 6 (by simp [haf]))).trans E6.out
              replace j4 := Lib.hid j4
              clear haf hfb
              rw [HLIT.out]
              go_simp
              exact hK.out _ _ (RS.next (wv := wv) (vs := vs) 7 (x := .bool true) (by rw [HLIT.out]; simp only [upv, e1, e6, Nat.reduceBEq, cond_true, cond_false]) (by rw [HG.out]; exact j4.out) hM.out (by rw [HG.out]; exact fun _ _ h => h) (by rw [HG.out]; exact E7.out.symm))
            · intro bf ac wv hfb haf hJ K' hK
              obtain ⟨vs, rfl, hM, j4⟩ := hJ
              replace hK := Lib.hid hK
              replace hM := Lib.hid hM
              rw [HG.out] at j4
              simp [Region.binds] at haf
              have e7 := ((j4 7 (by simp [haf]))).trans E7.out
              replace j4 := Lib.hid j4
              clear haf hfb
              rw [HLIT.out]
              go_simp
              exact hK.out _ _ (RS.next (wv := wv) (vs := vs) 8 (x := .bool true) (by rw [HLIT.out]; simp only [upv, e7, Nat.reduceBEq, cond_true, cond_false]) (by rw [HG.out]; exact j4.out) hM.out (by rw [HG.out]; exact fun _ _ h => h) (by rw [HG.out]; exact E8.out.symm))
            · intro bf ac wv hfb haf hJ K' hK
              obtain ⟨vs, rfl, hM, j4⟩ := hJ
              replace hK := Lib.hid hK
              replace hM := Lib.hid hM
              rw [HG.out] at j4
              simp [Region.binds] at haf
              have e8 := ((j4 8 (by simp [haf]))).trans E8.out
              replace j4 := Lib.hid j4
              clear haf hfb
              rw [HLIT.out]
              go_simp
              exact hK.out _ _ (RS.next (wv := wv) (vs := vs) 9 (x := .int .i64 (k : Int)) (by rw [HLIT.out]; simp only [upv, e8, Nat.reduceBEq, cond_true, cond_false]) (by rw [HG.out]; exact j4.out) hM.out (by rw [HG.out]; exact fun _ _ h => h) (by rw [HG.out]; exact E9.out.symm))
            · intro bf ac wv hfb haf hJ K' hK
              obtain ⟨vs, rfl, hM, j4⟩ := hJ
              replace hK := Lib.hid hK
              replace hM := Lib.hid hM
              rw [HG.out] at j4
              simp [Region.binds] at haf
              have e8 := ((j4 8 (by simp [haf]))).trans E8.out
              have e9 := ((j4 9 (by simp [haf]))).trans E9.out
              replace j4 := Lib.hid j4
              clear haf hfb
              rw [HLIT.out]
              go_simp
              exact hK.out _ _ (RS.next (wv := wv) (vs := vs) 10 (x := .bool false) (by rw [HLIT.out]; simp only [upv, e8, e9, Nat.reduceBEq, cond_true, cond_false]) (by rw [HG.out]; exact j4.out) hM.out (by rw [HG.out]; exact fun _ _ h => h) (by rw [HG.out]; exact E10.out.symm))
            · intro bf ac wv hfb haf hJ K' hK
              obtain ⟨vs, rfl, hM, j4⟩ := hJ
              replace hK := Lib.hid hK
              replace hM := Lib.hid hM
              rw [HG.out] at j4
              simp [Region.binds] at haf
              have e8 := ((j4 8 (by simp [haf]))).trans E8.out
              have e10 := ((j4 10 (by simp [haf]))).trans E10.out
              replace j4 := Lib.hid j4
              clear haf hfb
              rw [HLIT.out]
              go_simp
              exact hK.out _ _ (RS.next (wv := wv) (vs := vs) 11 (x := .bool false) (by rw [HLIT.out]; simp only [upv, e8, e10, Nat.reduceBEq, cond_true, cond_false]) (by rw [HG.out]; exact j4.out) hM.out (by rw [HG.out]; exact fun _ _ h => h) (by rw [HG.out]; exact E11.out.symm))
            · intro bf ac wv hfb haf hJ K' hK
              obtain ⟨vs, rfl, hM, j4⟩ := hJ
              replace hK := Lib.hid hK
              replace hM := Lib.hid hM
              rw [HG.out] at j4
              simp [Region.binds] at haf
              have e11 := ((j4 11 (by simp [haf]))).trans E11.out
              replace j4 := Lib.hid j4
              clear haf hfb
              have xx := H128.out.step hM.out
              have xx0 := xx.c 0 rfl
              have xx1 := xx.c 1 rfl
              have xxz := xx.2.2
              clear xx
              rw [HLIT.out]
              go_simp
              exact hK.out _ _ (RS.next (wv := wv) (vs := vs) 12 (x := .agg #[.slice ua2 V2.length uc2, .slice fa2 M2.length fc2]) (by rw [HLIT.out]; simp only [upv, e11, Nat.reduceBEq, cond_true, cond_false]) (by rw [HG.out]; exact j4.out) hM.out (by rw [HG.out]; exact fun _ _ h => h) (by rw [HG.out]; exact E12.out.symm))
            · intro bf ac wv hfb haf hJ K' hK
              obtain ⟨vs, rfl, hM, j4⟩ := hJ
              replace hK := Lib.hid hK
              replace hM := Lib.hid hM
              rw [HG.out] at j4
              simp [Region.binds] at haf
              have e11 := ((j4 11 (by simp [haf]))).trans E11.out
              replace j4 := Lib.hid j4
              clear haf hfb
              rw [HLIT.out]
              go_simp
              exact hK.out _ _ (RS.next (wv := wv) (vs := vs) 13 (x := .pointer (some ⟨(w.heap.size), 1, none⟩)) (by rw [HLIT.out]; simp only [upv, e11, Nat.reduceBEq, cond_true, cond_false]) (by rw [HG.out]; exact j4.out) hM.out (by rw [HG.out]; exact fun _ _ h => h) (by rw [HG.out]; exact E13.out.symm))
            · intro bf ac wv hfb haf hJ K' hK
              obtain ⟨vs, rfl, hM, j4⟩ := hJ
              replace hK := Lib.hid hK
              replace hM := Lib.hid hM
              rw [HG.out] at j4
              simp [Region.binds] at haf
              have e11 := ((j4 11 (by simp [haf]))).trans E11.out
              have e13 := ((j4 13 (by simp [haf]))).trans E13.out
              replace j4 := Lib.hid j4
              clear haf hfb
              have xx := H123.out.step hM.out
              have xx0 := xx.c 0 rfl
              have xx1 := xx.c 1 rfl
              have xxz := xx.2.2
              clear xx
              rw [HLIT.out]
              go_simp
              exact hK.out _ _ (RS.next (wv := wv) (vs := vs) 14 (x := .slice (some ⟨bk, ok, none⟩) L.length sc) (by rw [HLIT.out]; simp only [upv, e11, e13, Nat.reduceBEq, cond_true, cond_false]) (by rw [HG.out]; exact j4.out) hM.out (by rw [HG.out]; exact fun _ _ h => h) (by rw [HG.out]; exact E14.out.symm))
            · intro bf ac wv hfb haf hJ K' hK
              obtain ⟨vs, rfl, hM, j4⟩ := hJ
              replace hK := Lib.hid hK
              replace hM := Lib.hid hM
              rw [HG.out] at j4
              simp [Region.binds] at haf
              have e11 := ((j4 11 (by simp [haf]))).trans E11.out
              replace j4 := Lib.hid j4
              clear haf hfb
              rw [HLIT.out]
              go_simp
              exact hK.out _ _ (RS.next (wv := wv) (vs := vs) 15 (x := .int .i64 (k : Int)) (by rw [HLIT.out]; simp only [upv, e11, Nat.reduceBEq, cond_true, cond_false]) (by rw [HG.out]; exact j4.out) hM.out (by rw [HG.out]; exact fun _ _ h => h) (by rw [HG.out]; exact E15.out.symm))
            · intro bf ac wv hfb haf hJ K' hK
              obtain ⟨vs, rfl, hM, j4⟩ := hJ
              replace hK := Lib.hid hK
              replace hM := Lib.hid hM
              rw [HG.out] at j4
              simp [Region.binds] at haf
              have e11 := ((j4 11 (by simp [haf]))).trans E11.out
              have e15 := ((j4 15 (by simp [haf]))).trans E15.out
              replace j4 := Lib.hid j4
              clear haf hfb
              rw [HLIT.out]
              go_simp
              exact hK.out _ _ (RS.next (wv := wv) (vs := vs) 16 (x := .int .i64 (k : Int)) (by rw [HLIT.out]; simp only [upv, e11, e15, Nat.reduceBEq, cond_true, cond_false]) (by rw [HG.out]; exact j4.out) hM.out (by rw [HG.out]; exact fun _ _ h => h) (by rw [HG.out]; exact E16.out.symm))
            · intro bf ac wv hfb haf hJ K' hK
              obtain ⟨vs, rfl, hM, j4⟩ := hJ
              replace hK := Lib.hid hK
              replace hM := Lib.hid hM
              rw [HG.out] at j4
              simp [Region.binds] at haf
              have e11 := ((j4 11 (by simp [haf]))).trans E11.out
              have e14 := ((j4 14 (by simp [haf]))).trans E14.out
              have e16 := ((j4 16 (by simp [haf]))).trans E16.out
              replace j4 := Lib.hid j4
              clear haf hfb
              rw [HLIT.out]
              go_simp
              exact hK.out _ _ (RS.next (wv := wv) (vs := vs) 17 (x := .pointer (some ⟨bk, ok + k * 4, none⟩)) (by rw [HLIT.out]; simp only [upv, e11, e14, e16, Nat.reduceBEq, cond_true, cond_false]) (by rw [HG.out]; exact j4.out) hM.out (by rw [HG.out]; exact fun _ _ h => h) (by rw [HG.out]; exact E17.out.symm))
            · intro bf ac wv hfb haf hJ K' hK
              obtain ⟨vs, rfl, hM, j4⟩ := hJ
              replace hK := Lib.hid hK
              replace hM := Lib.hid hM
              rw [HG.out] at j4
              simp [Region.binds] at haf
              have e11 := ((j4 11 (by simp [haf]))).trans E11.out
              have e17 := ((j4 17 (by simp [haf]))).trans E17.out
              replace j4 := Lib.hid j4
              clear haf hfb
              rw [HLIT.out]
              go_simp
              exact hK.out _ _ (RS.next (wv := wv) (vs := vs) 18 (x := .pointer (some ⟨bk, ok + k * 4 + 3, none⟩)) (by rw [HLIT.out]; simp only [upv, e11, e17, Nat.reduceBEq, cond_true, cond_false]) (by rw [HG.out]; exact j4.out) hM.out (by rw [HG.out]; exact fun _ _ h => h) (by rw [HG.out]; exact E18.out.symm))
            · intro bf ac wv hfb haf hJ K' hK
              obtain ⟨vs, rfl, hM, j4⟩ := hJ
              replace hK := Lib.hid hK
              replace hM := Lib.hid hM
              rw [HG.out] at j4
              simp [Region.binds] at haf
              have e11 := ((j4 11 (by simp [haf]))).trans E11.out
              have e18 := ((j4 18 (by simp [haf]))).trans E18.out
              replace j4 := Lib.hid j4
              clear haf hfb
              have yk2 := keep1 hM.out yk
              have ykz2 := World.block_lt_of_cell? _ _ yk2
              rw [HLIT.out]
              go_simp
              exact hK.out _ _ (RS.next (wv := wv) (vs := vs) 19 (x := .int .i64 dk) (by rw [HLIT.out]; simp only [upv, e11, e18, Nat.reduceBEq, cond_true, cond_false]) (by rw [HG.out]; exact j4.out) hM.out (by rw [HG.out]; exact fun _ _ h => h) (by rw [HG.out]; exact E19.out.symm))
            · intro bf ac wv hfb haf hJ K' hK
              obtain ⟨vs, rfl, hM, j4⟩ := hJ
              replace hK := Lib.hid hK
              replace hM := Lib.hid hM
              rw [HG.out] at j4
              simp [Region.binds] at haf
              have e11 := ((j4 11 (by simp [haf]))).trans E11.out
              have e12 := ((j4 12 (by simp [haf]))).trans E12.out
              have e19 := ((j4 19 (by simp [haf]))).trans E19.out
              replace j4 := Lib.hid j4
              clear haf hfb
              rw [HLIT.out]
              go_simp
              go_at_call 20
              refine (can_q _ _ V2 dk true HKC.out _ (H127.out.1.step hM.out) HL2.out).mono ?_
              rintro e w4 ⟨rfl, b4⟩
              exact hK.out _ _ (RS.next (wv := wv) (vs := vs) 20 (x := .bool true) (by rw [HLIT.out]; simp only [upv, e11, e12, e19, Nat.reduceBEq, cond_true, cond_false]) (by rw [HG.out]; exact j4.out) (keep2 b4 hM.out) (by rw [HG.out]; exact fun _ _ h => h) (by rw [HG.out]; exact E20.out.symm))
            · intro bf ac wv hfb haf hJ K' hK
              obtain ⟨vs, rfl, hM, j4⟩ := hJ
              replace hK := Lib.hid hK
              replace hM := Lib.hid hM
              rw [HG.out] at j4
              simp [Region.binds] at haf
              have e8 := ((j4 8 (by simp [haf]))).trans E8.out
              have e11 := ((j4 11 (by simp [haf]))).trans E11.out
              have e20 := ((j4 20 (by simp [haf]))).trans E20.out
              replace j4 := Lib.hid j4
              clear haf hfb
              rw [HLIT.out]
              go_simp
              exact hK.out _ _ (RS.next (wv := wv) (vs := vs) 21 (x := .bool true) (by rw [HLIT.out]; simp only [upv, e8, e11, e20, Nat.reduceBEq, cond_true, cond_false]) (by rw [HG.out]; exact j4.out) hM.out (by rw [HG.out]; exact fun _ _ h => h) (by rw [HG.out]; exact E21.out.symm))
            · intro bf ac wv hfb haf hJ K' hK
              obtain ⟨vs, rfl, hM, j4⟩ := hJ
              replace hK := Lib.hid hK
              replace hM := Lib.hid hM
              rw [HG.out] at j4
              simp [Region.binds] at haf
              have e8 := ((j4 8 (by simp [haf]))).trans E8.out
              have e21 := ((j4 21 (by simp [haf]))).trans E21.out
              replace j4 := Lib.hid j4
              clear haf hfb
              rw [HLIT.out]
              go_simp
              exact hK.out _ _ (RS.next (wv := wv) (vs := vs) 22 (x := .bool true) (by rw [HLIT.out]; simp only [upv, e8, e21, Nat.reduceBEq, cond_true, cond_false]) (by rw [HG.out]; exact j4.out) hM.out (by rw [HG.out]; exact fun _ _ h => h) (by rw [HG.out]; exact E22.out.symm))
            · intro bf ac wv hfb haf hJ K' hK
              obtain ⟨vs, rfl, hM, j4⟩ := hJ
              replace hK := Lib.hid hK
              replace hM := Lib.hid hM
              rw [HG.out] at j4
              simp [Region.binds] at haf
              have e22 := ((j4 22 (by simp [haf]))).trans E22.out
              replace j4 := Lib.hid j4
              clear haf hfb
              rw [HLIT.out]
              go_simp
              exact hK.out _ _ (RS.next (wv := wv) (vs := vs) 23 (x := .bool true) (by rw [HLIT.out]; simp only [upv, e22, Nat.reduceBEq, cond_true, cond_false]) (by rw [HG.out]; exact j4.out) hM.out (by rw [HG.out]; exact fun _ _ h => h) (by rw [HG.out]; exact E23.out.symm))
            · intro bf ac wv hfb haf hJ K' hK
              obtain ⟨vs, rfl, hM, j4⟩ := hJ
              replace hK := Lib.hid hK
              replace hM := Lib.hid hM
              rw [HG.out] at j4
              simp [Region.binds] at haf
              have e23 := ((j4 23 (by simp [haf]))).trans E23.out
              replace j4 := Lib.hid j4
              clear haf hfb
              rw [HLIT.out]
              go_simp
              exact hK.out _ _ (RS.next (wv := wv) (vs := vs) 24 (x := .int .i64 Ec) (by rw [HLIT.out]; simp only [upv, e23, Nat.reduceBEq, cond_true, cond_false]) (by rw [HG.out]; exact j4.out) hM.out (by rw [HG.out]; exact fun _ _ h => h) (by rw [HG.out]; exact E24.out.symm))
            · intro bf ac wv hfb haf hJ K' hK
              obtain ⟨vs, rfl, hM, j4⟩ := hJ
              replace hK := Lib.hid hK
              replace hM := Lib.hid hM
              rw [HG.out] at j4
              simp [Region.binds] at haf
              have e23 := ((j4 23 (by simp [haf]))).trans E23.out
              have e24 := ((j4 24 (by simp [haf]))).trans E24.out
              replace j4 := Lib.hid j4
              clear haf hfb
              rw [HLIT.out]
              go_simp
              exact hK.out _ _ (RS.next (wv := wv) (vs := vs) 25 (x := .bool false) (by rw [HLIT.out]; simp only [upv, e23, e24, Nat.reduceBEq, cond_true, cond_false]) (by rw [HG.out]; exact j4.out) hM.out (by rw [HG.out]; exact fun _ _ h => h) (by rw [HG.out]; exact E25.out.symm))
            · intro bf ac wv hfb haf hJ K' hK
              obtain ⟨vs, rfl, hM, j4⟩ := hJ
              replace hK := Lib.hid hK
              replace hM := Lib.hid hM
              rw [HG.out] at j4
              simp [Region.binds] at haf
              have e23 := ((j4 23 (by simp [haf]))).trans E23.out
              have e25 := ((j4 25 (by simp [haf]))).trans E25.out
              replace j4 := Lib.hid j4
              clear haf hfb
              rw [HLIT.out]
              go_simp
              exact hK.out _ _ (RS.next (wv := wv) (vs := vs) 26 (x := .bool false) (by rw [HLIT.out]; simp only [upv, e23, e25, Nat.reduceBEq, cond_true, cond_false]) (by rw [HG.out]; exact j4.out) hM.out (by rw [HG.out]; exact fun _ _ h => h) (by rw [HG.out]; exact E26.out.symm))
            · intro bf ac wv hfb haf hJ K' hK
              obtain ⟨vs, rfl, hM, j4⟩ := hJ
              replace hK := Lib.hid hK
              replace hM := Lib.hid hM
              rw [HG.out] at j4
              simp [Region.binds] at haf
              have e26 := ((j4 26 (by simp [haf]))).trans E26.out
              replace j4 := Lib.hid j4
              clear haf hfb
              have xx := H130.out.step hM.out
              have xx0 := xx.c 0 rfl
              have xx1 := xx.c 1 rfl
              have xxz := xx.2.2
              clear xx
              rw [HLIT.out]
              go_simp
              exact hK.out _ _ (RS.next (wv := wv) (vs := vs) 27 (x := .agg #[.slice ua3 V3.length uc3, .slice fa3 M3.length fc3]) (by rw [HLIT.out]; simp only [upv, e26, Nat.reduceBEq, cond_true, cond_false]) (by rw [HG.out]; exact j4.out) hM.out (by rw [HG.out]; exact fun _ _ h => h) (by rw [HG.out]; exact E27.out.symm))
            · intro bf ac wv hfb haf hJ K' hK
              obtain ⟨vs, rfl, hM, j4⟩ := hJ
              replace hK := Lib.hid hK
              replace hM := Lib.hid hM
              rw [HG.out] at j4
              simp [Region.binds] at haf
              have e26 := ((j4 26 (by simp [haf]))).trans E26.out
              replace j4 := Lib.hid j4
              clear haf hfb
              rw [HLIT.out]
              go_simp
              exact hK.out _ _ (RS.next (wv := wv) (vs := vs) 28 (x := .int .i64 v) (by rw [HLIT.out]; simp only [upv, e26, Nat.reduceBEq, cond_true, cond_false]) (by rw [HG.out]; exact j4.out) hM.out (by rw [HG.out]; exact fun _ _ h => h) (by rw [HG.out]; exact E28.out.symm))
            · intro bf ac wv hfb haf hJ K' hK
              obtain ⟨vs, rfl, hM, j4⟩ := hJ
              replace hK := Lib.hid hK
              replace hM := Lib.hid hM
              rw [HG.out] at j4
              simp [Region.binds] at haf
              have e26 := ((j4 26 (by simp [haf]))).trans E26.out
              have e27 := ((j4 27 (by simp [haf]))).trans E27.out
              have e28 := ((j4 28 (by simp [haf]))).trans E28.out
              replace j4 := Lib.hid j4
              clear haf hfb
              rw [HLIT.out]
              go_simp
              go_at_call 20
              refine (can_q _ _ V3 v true HZC.out _ (H129.out.1.step hM.out) HL3.out).mono ?_
              rintro e w4 ⟨rfl, b4⟩
              exact hK.out _ _ (RS.next (wv := wv) (vs := vs) 29 (x := .bool true) (by rw [HLIT.out]; simp only [upv, e26, e27, e28, Nat.reduceBEq, cond_true, cond_false]) (by rw [HG.out]; exact j4.out) (keep2 b4 hM.out) (by rw [HG.out]; exact fun _ _ h => h) (by rw [HG.out]; exact E29.out.symm))
            · intro bf ac wv hfb haf hJ K' hK
              obtain ⟨vs, rfl, hM, j4⟩ := hJ
              replace hK := Lib.hid hK
              replace hM := Lib.hid hM
              rw [HG.out] at j4
              simp [Region.binds] at haf
              have e23 := ((j4 23 (by simp [haf]))).trans E23.out
              have e26 := ((j4 26 (by simp [haf]))).trans E26.out
              have e29 := ((j4 29 (by simp [haf]))).trans E29.out
              replace j4 := Lib.hid j4
              clear haf hfb
              rw [HLIT.out]
              go_simp
              exact hK.out _ _ (RS.next (wv := wv) (vs := vs) 30 (x := .bool true) (by rw [HLIT.out]; simp only [upv, e23, e26, e29, Nat.reduceBEq, cond_true, cond_false]) (by rw [HG.out]; exact j4.out) hM.out (by rw [HG.out]; exact fun _ _ h => h) (by rw [HG.out]; exact E30.out.symm))
            · intro bf ac wv hfb haf hJ K' hK
              obtain ⟨vs, rfl, hM, j4⟩ := hJ
              replace hK := Lib.hid hK
              replace hM := Lib.hid hM
              rw [HG.out] at j4
              simp [Region.binds] at haf
              have e23 := ((j4 23 (by simp [haf]))).trans E23.out
              have e30 := ((j4 30 (by simp [haf]))).trans E30.out
              replace j4 := Lib.hid j4
              clear haf hfb
              rw [HLIT.out]
              go_simp
              exact hK.out _ _ (RS.next (wv := wv) (vs := vs) 31 (x := .bool true) (by rw [HLIT.out]; simp only [upv, e23, e30, Nat.reduceBEq, cond_true, cond_false]) (by rw [HG.out]; exact j4.out) hM.out (by rw [HG.out]; exact fun _ _ h => h) (by rw [HG.out]; exact E31.out.symm))
            · intro bf ac wv hfb haf hJ K' hK
              obtain ⟨vs, rfl, hM, j4⟩ := hJ
              replace hK := Lib.hid hK
              replace hM := Lib.hid hM
              rw [HG.out] at j4
              simp [Region.binds] at haf
              have e31 := ((j4 31 (by simp [haf]))).trans E31.out
              replace j4 := Lib.hid j4
              clear haf hfb
              rw [HLIT.out]
              go_simp
              exact hK.out _ _ (RS.next (wv := wv) (vs := vs) 32 (x := .bool true) (by rw [HLIT.out]; simp only [upv, e31, Nat.reduceBEq, cond_true, cond_false]) (by rw [HG.out]; exact j4.out) hM.out (by rw [HG.out]; exact fun _ _ h => h) (by rw [HG.out]; exact E32.out.symm))
          · intro bf ac wv hall hJ
            obtain ⟨vs, rfl, hM, j4⟩ := hJ
            rw [HG.out] at j4
            have hlast := ((j4 32 (hall 32 (by decide)))).trans E32.out
            clear j4 hall
            rw [HLIT.out]
            dsimp only
            rw [hlast]
            clear hlast
            go_wp2
            go_ret
            exact ⟨rfl, keep2 hM HBE.out⟩
        · skip
          have g3 : (Ec != 0) = true := by simpa using hz3
          have g3b : (Ec == 0) = false := by simpa using hz3
          have g3c : decide (Ec = 0) = false := decide_eq_false hz3
          clear hz3
          have x20 : u26.cell? ⟨(u4.heap.size), 0, none⟩ = some (.slice ua2 V2.length uc2) := H128.out.c 0 rfl
          have x21 : u26.cell? ⟨(u4.heap.size), 1, none⟩ = some (.slice fa2 M2.length fc2) := H128.out.c 1 rfl
          have z2 : (u4.heap.size) < u26.heap.size := H128.out.2.2
          have x30 : u26.cell? ⟨(u5.heap.size), 0, none⟩ = some (.slice ua3 V3.length uc3) := H130.out.c 0 rfl
          have x31 : u26.cell? ⟨(u5.heap.size), 1, none⟩ = some (.slice fa3 M3.length fc3) := H130.out.c 1 rfl
          have z3 : (u5.heap.size) < u26.heap.size := H130.out.2.2
          have xb0 : u26.cell? ⟨(w.heap.size), 0, none⟩ = some (.slice va V.length vc) := H123.out.c 0 rfl
          have xb1 : u26.cell? ⟨(w.heap.size), 1, none⟩ = some (.slice (some ⟨bk, ok, none⟩) L.length sc) := H123.out.c 1 rfl
          have zb : (w.heap.size) < u26.heap.size := H123.out.2.2
          go_upto_region 15 with fail
          obtain ⟨wq, hwq⟩ : ∃ z, u26 = z := ⟨_, rfl⟩
          rw [hwq] at H122 H123 H124 H125 H126 H127 H128 H129 H130 HBE yk ⊢
          clear hwq x20 x21 z2 x30 x31 z3 xb0 xb1 zb
          obtain ⟨lit, hlit⟩ : ∃ lit : (Nat → Value) → Act, lit = fun vs => { tmps := List.toArray (Value.agg #[Value.slice va V.length vc, Value.slice (some { block := bk, off := ok }) L.length sc] :: Value.agg #[Value.int IntKind.i64 o.a, Value.int IntKind.i64 o.b, Value.int IntKind.i64 o.c, Value.int IntKind.i64 o.d] :: Value.int IntKind.i64 q :: Value.int IntKind.i64 v :: Value.int IntKind.i64 t :: Value.pointer (some { block := w.heap.size, off := 0 }) :: Value.pointer (some { block := w.heap.size + 1, off := 0 }) :: undef :: undef :: undef :: vs 32 :: Value.bool true :: Value.pointer (some { block := u3.heap.size, off := 0 }) :: Value.int IntKind.i64 Ea :: Value.pointer (some { block := u4.heap.size, off := 0 }) :: Value.int IntKind.i64 Eb :: Value.pointer (some { block := u5.heap.size, off := 0 }) :: Value.int IntKind.i64 Ec :: Value.int IntKind.i64 x :: Value.int IntKind.i64 (k : Int) :: Value.bool true :: Value.agg #[Value.slice va V.length vc, Value.slice (some { block := bk, off := ok }) L.length sc] :: Value.bool true :: Value.bool false :: undef :: Value.tuple #[Value.agg #[Value.slice ua1 V1.length uc1, Value.slice fa1 M1.length fc1], Value.int IntKind.i64 Ea] :: Value.agg #[Value.slice va V.length vc, Value.slice (some { block := bk, off := ok }) L.length sc] :: Value.agg #[Value.int IntKind.i64 o.a, Value.int IntKind.i64 o.b, Value.int IntKind.i64 o.c, Value.int IntKind.i64 o.d] :: Value.tuple #[Value.agg #[Value.slice ua1 V1.length uc1, Value.slice fa1 M1.length fc1], Value.int IntKind.i64 Ea] :: Value.agg #[Value.slice ua1 V1.length uc1, Value.slice fa1 M1.length fc1] :: Value.int IntKind.i64 Ea :: Value.tuple #[Value.agg #[Value.slice ua2 V2.length uc2, Value.slice fa2 M2.length fc2], Value.int IntKind.i64 Eb] :: Value.agg #[Value.slice va V.length vc, Value.slice (some { block := bk, off := ok }) L.length sc] :: Value.int IntKind.i64 q :: Value.tuple #[Value.agg #[Value.slice ua2 V2.length uc2, Value.slice fa2 M2.length fc2], Value.int IntKind.i64 Eb] :: Value.agg #[Value.slice ua2 V2.length uc2, Value.slice fa2 M2.length fc2] :: Value.int IntKind.i64 Eb :: Value.tuple #[Value.agg #[Value.slice ua3 V3.length uc3, Value.slice fa3 M3.length fc3], Value.int IntKind.i64 Ec] :: Value.agg #[Value.slice va V.length vc, Value.slice (some { block := bk, off := ok }) L.length sc] :: Value.int IntKind.i64 v :: Value.int IntKind.i64 t :: Value.tuple #[Value.agg #[Value.slice ua3 V3.length uc3, Value.slice fa3 M3.length fc3], Value.int IntKind.i64 Ec] :: Value.agg #[Value.slice ua3 V3.length uc3, Value.slice fa3 M3.length fc3] :: Value.int IntKind.i64 Ec :: Value.int IntKind.i64 x :: Value.bool false :: u46 :: u47 :: u48 :: u49 :: u50 :: u51 :: u52 :: u53 :: u54 :: u55 :: u56 :: u57 :: u58 :: u59 :: u60 :: u61 :: u62 :: u63 :: u64 :: u65 :: u66 :: u67 :: u68 :: u69 :: u70 :: u71 :: u72 :: u73 :: u74 :: u75 :: u76 :: u77 :: u78 :: u79 :: u80 :: u81 :: u82 :: u83 :: u84 :: u85 :: u86 :: u87 :: u88 :: u89 :: u90 :: u91 :: u92 :: Value.agg #[Value.slice va V.length vc, Value.slice (some { block := bk, off := ok }) L.length sc] :: Value.int IntKind.i64 q :: Value.int IntKind.i64 (k : Int) :: vs 0 :: vs 1 :: vs 2 :: vs 3 :: vs 4 :: vs 5 :: vs 6 :: vs 7 :: vs 8 :: vs 9 :: vs 10 :: vs 11 :: vs 12 :: vs 13 :: vs 14 :: vs 15 :: vs 16 :: vs 17 :: vs 18 :: vs 19 :: vs 20 :: vs 21 :: vs 22 :: vs 23 :: vs 24 :: vs 25 :: vs 26 :: vs 27 :: vs 28 :: vs 29 :: vs 30 :: vs 31 :: []), defers := [] } := ⟨_, rfl⟩
          have HLIT := Lib.hid hlit
          clear hlit
          obtain ⟨val, hval⟩ : ∃ val : List Value, val = [.bool true, .bool true, .int .i64 Eb, .bool true, .int .i64 (k : Int), .bool true, .bool true, .bool true, .bool true, .int .i64 (k : Int), .bool false, .bool false, .agg #[.slice ua2 V2.length uc2, .slice fa2 M2.length fc2], .pointer (some ⟨(w.heap.size), 1, none⟩), .slice (some ⟨bk, ok, none⟩) L.length sc, .int .i64 (k : Int), .int .i64 (k : Int), .pointer (some ⟨bk, ok + k * 4, none⟩), .pointer (some ⟨bk, ok + k * 4 + 3, none⟩), .int .i64 dk, .bool true, .bool true, .bool true, .bool true, .int .i64 Ec, .bool true, .bool true, undef, undef, undef, .bool true, .bool true, .bool true] := ⟨_, rfl⟩
          have E0 := Lib.hid (show val.getD 0 undef = .bool true by rw [hval]; rfl)
          have E1 := Lib.hid (show val.getD 1 undef = .bool true by rw [hval]; rfl)
          have E2 := Lib.hid (show val.getD 2 undef = .int .i64 Eb by rw [hval]; rfl)
          have E3 := Lib.hid (show val.getD 3 undef = .bool true by rw [hval]; rfl)
          have E4 := Lib.hid (show val.getD 4 undef = .int .i64 (k : Int) by rw [hval]; rfl)
          have E5 := Lib.hid (show val.getD 5 undef = .bool true by rw [hval]; rfl)
          have E6 := Lib.hid (show val.getD 6 undef = .bool true by rw [hval]; rfl)
          have E7 := Lib.hid (show val.getD 7 undef = .bool true by rw [hval]; rfl)
          have E8 := Lib.hid (show val.getD 8 undef = .bool true by rw [hval]; rfl)
          have E9 := Lib.hid (show val.getD 9 undef = .int .i64 (k : Int) by rw [hval]; rfl)
          have E10 := Lib.hid (show val.getD 10 undef = .bool false by rw [hval]; rfl)
          have E11 := Lib.hid (show val.getD 11 undef = .bool false by rw [hval]; rfl)
          have E12 := Lib.hid (show val.getD 12 undef = .agg #[.slice ua2 V2.length uc2, .slice fa2 M2.length fc2] by rw [hval]; rfl)
          have E13 := Lib.hid (show val.getD 13 undef = .pointer (some ⟨(w.heap.size), 1, none⟩) by rw [hval]; rfl)
          have E14 := Lib.hid (show val.getD 14 undef = .slice (some ⟨bk, ok, none⟩) L.length sc by rw [hval]; rfl)
          have E15 := Lib.hid (show val.getD 15 undef = .int .i64 (k : Int) by rw [hval]; rfl)
          have E16 := Lib.hid (show val.getD 16 undef = .int .i64 (k : Int) by rw [hval]; rfl)
          have E17 := Lib.hid (show val.getD 17 undef = .pointer (some ⟨bk, ok + k * 4, none⟩) by rw [hval]; rfl)
          have E18 := Lib.hid (show val.getD 18 undef = .pointer (some ⟨bk, ok + k * 4 + 3, none⟩) by rw [hval]; rfl)
          have E19 := Lib.hid (show val.getD 19 undef = .int .i64 dk by rw [hval]; rfl)
          have E20 := Lib.hid (show val.getD 20 undef = .bool true by rw [hval]; rfl)
          have E21 := Lib.hid (show val.getD 21 undef = .bool true by rw [hval]; rfl)
          have E22 := Lib.hid (show val.getD 22 undef = .bool true by rw [hval]; rfl)
          have E23 := Lib.hid (show val.getD 23 undef = .bool true by rw [hval]; rfl)
          have E24 := Lib.hid (show val.getD 24 undef = .int .i64 Ec by rw [hval]; rfl)
          have E25 := Lib.hid (show val.getD 25 undef = .bool true by rw [hval]; rfl)
          have E26 := Lib.hid (show val.getD 26 undef = .bool true by rw [hval]; rfl)
          have E27 := Lib.hid (show val.getD 27 undef = undef by rw [hval]; rfl)
          have E28 := Lib.hid (show val.getD 28 undef = undef by rw [hval]; rfl)
          have E29 := Lib.hid (show val.getD 29 undef = undef by rw [hval]; rfl)
          have E30 := Lib.hid (show val.getD 30 undef = .bool true by rw [hval]; rfl)
          have E31 := Lib.hid (show val.getD 31 undef = .bool true by rw [hval]; rfl)
          have E32 := Lib.hid (show val.getD 32 undef = .bool true by rw [hval]; rfl)
          clear hval
          obtain ⟨G, hG0⟩ : ∃ G : Nat → Value → World → Prop, G = (fun i v w => (v = val.getD i undef)) := ⟨_, rfl⟩
          have HG := Lib.hid hG0
          clear hG0
          refine region_inv (RS lit wq G) (by kernel_rfl) (by decide +kernel) ?_ ?_ ?_
          · exact ⟨fun i => ([undef, undef, undef, undef, undef, undef, undef, undef, undef, undef, undef, undef, undef, undef, undef, undef, undef, undef, undef, undef, undef, undef, undef, undef, undef, undef, undef, undef, undef, undef, undef, undef, u10] : List Value).getD i undef, (by rw [HLIT.out]; rfl), below_drew _ _, fun i h => by cases h⟩
          · refine ⟨?_, ?_, ?_, ?_, ?_, ?_, ?_, ?_, ?_, ?_, ?_, ?_, ?_, ?_, ?_, ?_, ?_, ?_, ?_, ?_, ?_, ?_, ?_, ?_, ?_, ?_, ?_, ?_, ?_, ?_, ?_, ?_, ?_, trivial⟩
            · intro bf ac wv hfb haf hJ K' hK
              obtain ⟨vs, rfl, hM, j4⟩ := hJ
              replace hK := Lib.hid hK
              replace hM := Lib.hid hM
              rw [HG.out] at j4
              replace j4 := Lib.hid j4
              clear haf hfb
              rw [HLIT.out]
              go_simp
              exact hK.out _ _ (RS.next (wv := wv) (vs := vs) 0 (x := .bool true) (by rw [HLIT.out]; rfl) (by rw [HG.out]; exact j4.out) hM.out (by rw [HG.out]; exact fun _ _ h => h) (by rw [HG.out]; exact E0.out.symm))
            · intro bf ac wv hfb haf hJ K' hK
              obtain ⟨vs, rfl, hM, j4⟩ := hJ
              replace hK := Lib.hid hK
              replace hM := Lib.hid hM
              rw [HG.out] at j4
              simp [Region.binds] at haf
              have e0 := ((j4 0 (by simp [haf]))).trans E0.out
              replace j4 := Lib.hid j4
              clear haf hfb
              rw [HLIT.out]
              go_simp
              exact hK.out _ _ (RS.next (wv := wv) (vs := vs) 1 (x := .bool true) (by rw [HLIT.out]; simp only [upv, e0, Nat.reduceBEq, cond_true, cond_false]) (by rw [HG.out]; exact j4.out) hM.out (by rw [HG.out]; exact fun _ _ h => h) (by rw [HG.out]; exact E1.out.symm))
            · intro bf ac wv hfb haf hJ K' hK
              obtain ⟨vs, rfl, hM, j4⟩ := hJ
              replace hK := Lib.hid hK
              replace hM := Lib.hid hM
              rw [HG.out] at j4
              simp [Region.binds] at haf
              have e1 := ((j4 1 (by simp [haf]))).trans E1.out
              replace j4 := Lib.hid j4
              clear haf hfb
              rw [HLIT.out]
              go_simp
              exact hK.out _ _ (RS.next (wv := wv) (vs := vs) 2 (x := .int .i64 Eb) (by rw [HLIT.out]; simp only [upv, e1, Nat.reduceBEq, cond_true, cond_false]) (by rw [HG.out]; exact j4.out) hM.out (by rw [HG.out]; exact fun _ _ h => h) (by rw [HG.out]; exact E2.out.symm))
            · intro bf ac wv hfb haf hJ K' hK
              obtain ⟨vs, rfl, hM, j4⟩ := hJ
              replace hK := Lib.hid hK
              replace hM := Lib.hid hM
              rw [HG.out] at j4
              simp [Region.binds] at haf
              have e1 := ((j4 1 (by simp [haf]))).trans E1.out
              have e2 := ((j4 2 (by simp [haf]))).trans E2.out
              replace j4 := Lib.hid j4
              clear haf hfb
              rw [HLIT.out]
              go_simp
              exact hK.out _ _ (RS.next (wv := wv) (vs := vs) 3 (x := .bool true) (by rw [HLIT.out]; simp only [upv, e1, e2, Nat.reduceBEq, cond_true, cond_false]) (by rw [HG.out]; exact j4.out) hM.out (by rw [HG.out]; exact fun _ _ h => h) (by rw [HG.out]; exact E3.out.symm))
            · intro bf ac wv hfb haf hJ K' hK
              obtain ⟨vs, rfl, hM, j4⟩ := hJ
              replace hK := Lib.hid hK
              replace hM := Lib.hid hM
              rw [HG.out] at j4
              simp [Region.binds] at haf
              have e1 := ((j4 1 (by simp [haf]))).trans E1.out
              replace j4 := Lib.hid j4
              clear haf hfb
              rw [HLIT.out]
              go_simp
              exact hK.out _ _ (RS.next (wv := wv) (vs := vs) 4 (x := .int .i64 (k : Int)) (by rw [HLIT.out]; simp only [upv, e1, Nat.reduceBEq, cond_true, cond_false]) (by rw [HG.out]; exact j4.out) hM.out (by rw [HG.out]; exact fun _ _ h => h) (by rw [HG.out]; exact E4.out.symm))
            · intro bf ac wv hfb haf hJ K' hK
              obtain ⟨vs, rfl, hM, j4⟩ := hJ
              replace hK := Lib.hid hK
              replace hM := Lib.hid hM
              rw [HG.out] at j4
              simp [Region.binds] at haf
              have e1 := ((j4 1 (by simp [haf]))).trans E1.out
              have e4 := ((j4 4 (by simp [haf]))).trans E4.out
              replace j4 := Lib.hid j4
              clear haf hfb
              rw [HLIT.out]
              go_simp
              exact hK.out _ _ (RS.next (wv := wv) (vs := vs) 5 (x := .bool true) (by rw [HLIT.out]; simp only [upv, e1, e4, Nat.reduceBEq, cond_true, cond_false]) (by rw [HG.out]; exact j4.out) hM.out (by rw [HG.out]; exact fun _ _ h => h) (by rw [HG.out]; exact E5.out.symm))
            · intro bf ac wv hfb haf hJ K' hK
              obtain ⟨vs, rfl, hM, j4⟩ := hJ
              replace hK := Lib.hid hK
              replace hM := Lib.hid hM
              rw [HG.out] at j4
              simp [Region.binds] at haf
              have e1 := ((j4 1 (by simp [haf]))).trans E1.out
              have e3 := ((j4 3 (by simp [haf]))).trans E3.out
              have e5 := ((j4 5 (by simp [haf]))).trans E5.out
              replace j4 := Lib.hid j4
              clear haf hfb
              rw [HLIT.out]
              go_simp
              exact hK.out _ _ (RS.next (wv := wv) (vs := vs) 6 (x := .bool true) (by rw [HLIT.out]; simp only [upv, e1, e3, e5, Nat.reduceBEq, cond_true, cond_false]) (by rw [HG.out]; exact j4.out) hM.out (by rw [HG.out]; exact fun _ _ h => h) (by rw [HG.out]; exact E6.out.symm))
            · intro bf ac wv hfb haf hJ K' hK
              obtain ⟨vs, rfl, hM, j4⟩ := hJ
              replace hK := Lib.hid hK
              replace hM := Lib.hid hM
              rw [HG.out] at j4
              simp [Region.binds] at haf
              have e1 := ((j4 1 (by simp [haf]))).trans E1.out
              have e6 := ((j4 6 (by simp [haf]))).trans E6.out
              replace j4 := Lib.hid j4
              clear haf hfb
              rw [HLIT.out]
              go_simp
              exact hK.out _ _ (RS.next (wv := wv) (vs := vs) 7 (x := .bool true) (by rw [HLIT.out]; simp only [upv, e1, e6, Nat.reduceBEq, cond_true, cond_false]) (by rw [HG.out]; exact j4.out) hM.out (by rw [HG.out]; exact fun _ _ h => h) (by rw [HG.out]; exact E7.out.symm))
            · intro bf ac wv hfb haf hJ K' hK
              obtain ⟨vs, rfl, hM, j4⟩ := hJ
              replace hK := Lib.hid hK
              replace hM := Lib.hid hM
              rw [HG.out] at j4
              simp [Region.binds] at haf
              have e7 := ((j4 7 (by simp [haf]))).trans E7.out
              replace j4 := Lib.hid j4
              clear haf hfb
              rw [HLIT.out]
              go_simp
              exact hK.out _ _ (RS.next (wv := wv) (vs := vs) 8 (x := .bool true) (by rw [HLIT.out]; simp only [upv, e7, Nat.reduceBEq, cond_true, cond_false]) (by rw [HG.out]; exact j4.out) hM.out (by rw [HG.out]; exact fun _ _ h => h) (by rw [HG.out]; exact E8.out.symm))
            · intro bf ac wv hfb haf hJ K' hK
              obtain ⟨vs, rfl, hM, j4⟩ := hJ
              replace hK := Lib.hid hK
              replace hM := Lib.hid hM
              rw [HG.out] at j4
              simp [Region.binds] at haf
              have e8 := ((j4 8 (by simp [haf]))).trans E8.out
              replace j4 := Lib.hid j4
              clear haf hfb
              rw [HLIT.out]
              go_simp
              exact hK.out _ _ (RS.next (wv := wv) (vs := vs) 9 (x := .int .i64 (k : Int)) (by rw [HLIT.out]; simp only [upv, e8, Nat.reduceBEq, cond_true, cond_false]) (by rw [HG.out]; exact j4.out) hM.out (by rw [HG.out]; exact fun _ _ h => h) (by rw [HG.out]; exact E9.out.symm))
            · intro bf ac wv hfb haf hJ K' hK
              obtain ⟨vs, rfl, hM, j4⟩ := hJ
              replace hK := Lib.hid hK
              replace hM := Lib.hid hM
              rw [HG.out] at j4
              simp [Region.binds] at haf
              have e8 := ((j4 8 (by simp [haf]))).trans E8.out
              have e9 := ((j4 9 (by simp [haf]))).trans E9.out
              replace j4 := Lib.hid j4
              clear haf hfb
              rw [HLIT.out]
              go_simp
              exact hK.out _ _ (RS.next (wv := wv) (vs := vs) 10 (x := .bool false) (by rw [HLIT.out]; simp only [upv, e8, e9, Nat.reduceBEq, cond_true, cond_false]) (by rw [HG.out]; exact j4.out) hM.out (by rw [HG.out]; exact fun _ _ h => h) (by rw [HG.out]; exact E10.out.symm))
            · intro bf ac wv hfb haf hJ K' hK
              obtain ⟨vs, rfl, hM, j4⟩ := hJ
              replace hK := Lib.hid hK
              replace hM := Lib.hid hM
              rw [HG.out] at j4
              simp [Region.binds] at haf
              have e8 := ((j4 8 (by simp [haf]))).trans E8.out
              have e10 := ((j4 10 (by simp [haf]))).trans E10.out
              replace j4 := Lib.hid j4
              clear haf hfb
              rw [HLIT.out]
              go_simp
              exact hK.out _ _ (RS.next (wv := wv) (vs := vs) 11 (x := .bool false) (by rw [HLIT.out]; simp only [upv, e8, e10, Nat.reduceBEq, cond_true, cond_false]) (by rw [HG.out]; exact j4.out) hM.out (by rw [HG.out]; exact fun _ _ h => h) (by rw [HG.out]; exact E11.out.symm))
            · intro bf ac wv hfb haf hJ K' hK
              obtain ⟨vs, rfl, hM, j4⟩ := hJ
              replace hK := Lib.hid hK
              replace hM := Lib.hid hM
              rw [HG.out] at j4
              simp [Region.binds] at haf
              have e11 := ((j4 11 (by simp [haf]))).trans E11.out
              replace j4 := Lib.hid j4
              clear haf hfb
              have xx := H128.out.step hM.out
              have xx0 := xx.c 0 rfl
              have xx1 := xx.c 1 rfl
              have xxz := xx.2.2
              clear xx
              rw [HLIT.out]
              go_simp
              exact hK.out _ _ (RS.next (wv := wv) (vs := vs) 12 (x := .agg #[.slice ua2 V2.length uc2, .slice fa2 M2.length fc2]) (by rw [HLIT.out]; simp only [upv, e11, Nat.reduceBEq, cond_true, cond_false]) (by rw [HG.out]; exact j4.out) hM.out (by rw [HG.out]; exact fun _ _ h => h) (by rw [HG.out]; exact E12.out.symm))
            · intro bf ac wv hfb haf hJ K' hK
              obtain ⟨vs, rfl, hM, j4⟩ := hJ
              replace hK := Lib.hid hK
              replace hM := Lib.hid hM
              rw [HG.out] at j4
              simp [Region.binds] at haf
              have e11 := ((j4 11 (by simp [haf]))).trans E11.out
              replace j4 := Lib.hid j4
              clear haf hfb
              rw [HLIT.out]
              go_simp
              exact hK.out _ _ (RS.next (wv := wv) (vs := vs) 13 (x := .pointer (some ⟨(w.heap.size), 1, none⟩)) (by rw [HLIT.out]; simp only [upv, e11, Nat.reduceBEq, cond_true, cond_false]) (by rw [HG.out]; exact j4.out) hM.out (by rw [HG.out]; exact fun _ _ h => h) (by rw [HG.out]; exact E13.out.symm))
            · intro bf ac wv hfb haf hJ K' hK
              obtain ⟨vs, rfl, hM, j4⟩ := hJ
              replace hK := Lib.hid hK
              replace hM := Lib.hid hM
              rw [HG.out] at j4
              simp [Region.binds] at haf
              have e11 := ((j4 11 (by simp [haf]))).trans E11.out
              have e13 := ((j4 13 (by simp [haf]))).trans E13.out
              replace j4 := Lib.hid j4
              clear haf hfb
              have xx := H123.out.step hM.out
              have xx0 := xx.c 0 rfl
              have xx1 := xx.c 1 rfl
              have xxz := xx.2.2
              clear xx
              rw [HLIT.out]
              go_simp
              exact hK.out _ _ (RS.next (wv := wv) (vs := vs) 14 (x := .slice (some ⟨bk, ok, none⟩) L.length sc) (by rw [HLIT.out]; simp only [upv, e11, e13, Nat.reduceBEq, cond_true, cond_false]) (by rw [HG.out]; exact j4.out) hM.out (by rw [HG.out]; exact fun _ _ h => h) (by rw [HG.out]; exact E14.out.symm))
            · intro bf ac wv hfb haf hJ K' hK
              obtain ⟨vs, rfl, hM, j4⟩ := hJ
              replace hK := Lib.hid hK
              replace hM := Lib.hid hM
              rw [HG.out] at j4
              simp [Region.binds] at haf
              have e11 := ((j4 11 (by simp [haf]))).trans E11.out
              replace j4 := Lib.hid j4
              clear haf hfb
              rw [HLIT.out]
              go_simp
              exact hK.out _ _ (RS.next (wv := wv) (vs := vs) 15 (x := .int .i64 (k : Int)) (by rw [HLIT.out]; simp only [upv, e11, Nat.reduceBEq, cond_true, cond_false]) (by rw [HG.out]; exact j4.out) hM.out (by rw [HG.out]; exact fun _ _ h => h) (by rw [HG.out]; exact E15.out.symm))
            · intro bf ac wv hfb haf hJ K' hK
              obtain ⟨vs, rfl, hM, j4⟩ := hJ
              replace hK := Lib.hid hK
              replace hM := Lib.hid hM
              rw [HG.out] at j4
              simp [Region.binds] at haf
              have e11 := ((j4 11 (by simp [haf]))).trans E11.out
              have e15 := ((j4 15 (by simp [haf]))).trans E15.out
              replace j4 := Lib.hid j4
              clear haf hfb
              rw [HLIT.out]
              go_simp
              exact hK.out _ _ (RS.next (wv := wv) (vs := vs) 16 (x := .int .i64 (k : Int)) (by rw [HLIT.out]; simp only [upv, e11, e15, Nat.reduceBEq, cond_true, cond_false]) (by rw [HG.out]; exact j4.out) hM.out (by rw [HG.out]; exact fun _ _ h => h) (by rw [HG.out]; exact E16.out.symm))
            · intro bf ac wv hfb haf hJ K' hK
              obtain ⟨vs, rfl, hM, j4⟩ := hJ
              replace hK := Lib.hid hK
              replace hM := Lib.hid hM
              rw [HG.out] at j4
              simp [Region.binds] at haf
              have e11 := ((j4 11 (by simp [haf]))).trans E11.out
              have e14 := ((j4 14 (by simp [haf]))).trans E14.out
              have e16 := ((j4 16 (by simp [haf]))).trans E16.out
              replace j4 := Lib.hid j4
              clear haf hfb
              rw [HLIT.out]
              go_simp
              exact hK.out _ _ (RS.next (wv := wv) (vs := vs) 17 (x := .pointer (some ⟨bk, ok + k * 4, none⟩)) (by rw [HLIT.out]; simp only [upv, e11, e14, e16, Nat.reduceBEq, cond_true, cond_false]) (by rw [HG.out]; exact j4.out) hM.out (by rw [HG.out]; exact fun _ _ h => h) (by rw [HG.out]; exact E17.out.symm))
            · intro bf ac wv hfb haf hJ K' hK
              obtain ⟨vs, rfl, hM, j4⟩ := hJ
              replace hK := Lib.hid hK
              replace hM := Lib.hid hM
              rw [HG.out] at j4
              simp [Region.binds] at haf
              have e11 := ((j4 11 (by simp [haf]))).trans E11.out
              have e17 := ((j4 17 (by simp [haf]))).trans E17.out
              replace j4 := Lib.hid j4
              clear haf hfb
              rw [HLIT.out]
              go_simp
              exact hK.out _ _ (RS.next (wv := wv) (vs := vs) 18 (x := .pointer (some ⟨bk, ok + k * 4 + 3, none⟩)) (by rw [HLIT.out]; simp only [upv, e11, e17, Nat.reduceBEq, cond_true, cond_false]) (by rw [HG.out]; exact j4.out) hM.out (by rw [HG.out]; exact fun _ _ h => h) (by rw [HG.out]; exact E18.out.symm))
            · intro bf ac wv hfb haf hJ K' hK
              obtain ⟨vs, rfl, hM, j4⟩ := hJ
              replace hK := Lib.hid hK
              replace hM := Lib.hid hM
              rw [HG.out] at j4
              simp [Region.binds] at haf
              have e11 := ((j4 11 (by simp [haf]))).trans E11.out
              have e18 := ((j4 18 (by simp [haf]))).trans E18.out
              replace j4 := Lib.hid j4
              clear haf hfb
              have yk2 := keep1 hM.out yk
              have ykz2 := World.block_lt_of_cell? _ _ yk2
              rw [HLIT.out]
              go_simp
              exact hK.out _ _ (RS.next (wv := wv) (vs := vs) 19 (x := .int .i64 dk) (by rw [HLIT.out]; simp only [upv, e11, e18, Nat.reduceBEq, cond_true, cond_false]) (by rw [HG.out]; exact j4.out) hM.out (by rw [HG.out]; exact fun _ _ h => h) (by rw [HG.out]; exact E19.out.symm))
            · intro bf ac wv hfb haf hJ K' hK
              obtain ⟨vs, rfl, hM, j4⟩ := hJ
              replace hK := Lib.hid hK
              replace hM := Lib.hid hM
              rw [HG.out] at j4
              simp [Region.binds] at haf
              have e11 := ((j4 11 (by simp [haf]))).trans E11.out
              have e12 := ((j4 12 (by simp [haf]))).trans E12.out
              have e19 := ((j4 19 (by simp [haf]))).trans E19.out
              replace j4 := Lib.hid j4
              clear haf hfb
              rw [HLIT.out]
              go_simp
              go_at_call 20
              refine (can_q _ _ V2 dk true HKC.out _ (H127.out.1.step hM.out) HL2.out).mono ?_
              rintro e w4 ⟨rfl, b4⟩
              exact hK.out _ _ (RS.next (wv := wv) (vs := vs) 20 (x := .bool true) (by rw [HLIT.out]; simp only [upv, e11, e12, e19, Nat.reduceBEq, cond_true, cond_false]) (by rw [HG.out]; exact j4.out) (keep2 b4 hM.out) (by rw [HG.out]; exact fun _ _ h => h) (by rw [HG.out]; exact E20.out.symm))
            · intro bf ac wv hfb haf hJ K' hK
              obtain ⟨vs, rfl, hM, j4⟩ := hJ
              replace hK := Lib.hid hK
              replace hM := Lib.hid hM
              rw [HG.out] at j4
              simp [Region.binds] at haf
              have e8 := ((j4 8 (by simp [haf]))).trans E8.out
              have e11 := ((j4 11 (by simp [haf]))).trans E11.out
              have e20 := ((j4 20 (by simp [haf]))).trans E20.out
              replace j4 := Lib.hid j4
              clear haf hfb
              rw [HLIT.out]
              go_simp
              exact hK.out _ _ (RS.next (wv := wv) (vs := vs) 21 (x := .bool true) (by rw [HLIT.out]; simp only [upv, e8, e11, e20, Nat.reduceBEq, cond_true, cond_false]) (by rw [HG.out]; exact j4.out) hM.out (by rw [HG.out]; exact fun _ _ h => h) (by rw [HG.out]; exact E21.out.symm))
            · intro bf ac wv hfb haf hJ K' hK
              obtain ⟨vs, rfl, hM, j4⟩ := hJ
              replace hK := Lib.hid hK
              replace hM := Lib.hid hM
              rw [HG.out] at j4
              simp [Region.binds] at haf
              have e8 := ((j4 8 (by simp [haf]))).trans E8.out
              have e21 := ((j4 21 (by simp [haf]))).trans E21.out
              replace j4 := Lib.hid j4
              clear haf hfb
              rw [HLIT.out]
              go_simp
              exact hK.out _ _ (RS.next (wv := wv) (vs := vs) 22 (x := .bool true) (by rw [HLIT.out]; simp only [upv, e8, e21, Nat.reduceBEq, cond_true, cond_false]) (by rw [HG.out]; exact j4.out) hM.out (by rw [HG.out]; exact fun _ _ h => h) (by rw [HG.out]; exact E22.out.symm))
            · intro bf ac wv hfb haf hJ K' hK
              obtain ⟨vs, rfl, hM, j4⟩ := hJ
              replace hK := Lib.hid hK
              replace hM := Lib.hid hM
              rw [HG.out] at j4
              simp [Region.binds] at haf
              have e22 := ((j4 22 (by simp [haf]))).trans E22.out
              replace j4 := Lib.hid j4
              clear haf hfb
              rw [HLIT.out]
              go_simp
              exact hK.out _ _ (RS.next (wv := wv) (vs := vs) 23 (x := .bool true) (by rw [HLIT.out]; simp only [upv, e22, Nat.reduceBEq, cond_true, cond_false]) (by rw [HG.out]; exact j4.out) hM.out (by rw [HG.out]; exact fun _ _ h => h) (by rw [HG.out]; exact E23.out.symm))
            · intro bf ac wv hfb haf hJ K' hK
              obtain ⟨vs, rfl, hM, j4⟩ := hJ
              replace hK := Lib.hid hK
              replace hM := Lib.hid hM
              rw [HG.out] at j4
              simp [Region.binds] at haf
              have e23 := ((j4 23 (by simp [haf]))).trans E23.out
              replace j4 := Lib.hid j4
              clear haf hfb
              rw [HLIT.out]
              go_simp
              exact hK.out _ _ (RS.next (wv := wv) (vs := vs) 24 (x := .int .i64 Ec) (by rw [HLIT.out]; simp only [upv, e23, Nat.reduceBEq, cond_true, cond_false]) (by rw [HG.out]; exact j4.out) hM.out (by rw [HG.out]; exact fun _ _ h => h) (by rw [HG.out]; exact E24.out.symm))
            · intro bf ac wv hfb haf hJ K' hK
              obtain ⟨vs, rfl, hM, j4⟩ := hJ
              replace hK := Lib.hid hK
              replace hM := Lib.hid hM
              rw [HG.out] at j4
              simp [Region.binds] at haf
              have e23 := ((j4 23 (by simp [haf]))).trans E23.out
              have e24 := ((j4 24 (by simp [haf]))).trans E24.out
              replace j4 := Lib.hid j4
              clear haf hfb
              rw [HLIT.out]
              go_simp
              exact hK.out _ _ (RS.next (wv := wv) (vs := vs) 25 (x := .bool true) (by rw [HLIT.out]; simp only [upv, e23, e24, Nat.reduceBEq, cond_true, cond_false]) (by rw [HG.out]; exact j4.out) hM.out (by rw [HG.out]; exact fun _ _ h => h) (by rw [HG.out]; exact E25.out.symm))
            · intro bf ac wv hfb haf hJ K' hK
              obtain ⟨vs, rfl, hM, j4⟩ := hJ
              replace hK := Lib.hid hK
              replace hM := Lib.hid hM
              rw [HG.out] at j4
              simp [Region.binds] at haf
              have e23 := ((j4 23 (by simp [haf]))).trans E23.out
              have e25 := ((j4 25 (by simp [haf]))).trans E25.out
              replace j4 := Lib.hid j4
              clear haf hfb
              rw [HLIT.out]
              go_simp
              exact hK.out _ _ (RS.next (wv := wv) (vs := vs) 26 (x := .bool true) (by rw [HLIT.out]; simp only [upv, e23, e25, Nat.reduceBEq, cond_true, cond_false]) (by rw [HG.out]; exact j4.out) hM.out (by rw [HG.out]; exact fun _ _ h => h) (by rw [HG.out]; exact E26.out.symm))
            · intro bf ac wv hfb haf hJ K' hK
              obtain ⟨vs, rfl, hM, j4⟩ := hJ
              replace hK := Lib.hid hK
              replace hM := Lib.hid hM
              rw [HG.out] at j4
              simp [Region.binds] at haf
              have e26 := ((j4 26 (by simp [haf]))).trans E26.out
              replace j4 := Lib.hid j4
              clear haf hfb
              rw [HLIT.out]
              go_simp
              exact hK.out _ _ (RS.next (wv := wv) (vs := vs) 27 (x := undef) (by rw [HLIT.out]; simp only [upv, e26, Nat.reduceBEq, cond_true, cond_false]) (by rw [HG.out]; exact j4.out) hM.out (by rw [HG.out]; exact fun _ _ h => h) (by rw [HG.out]; exact E27.out.symm))
            · intro bf ac wv hfb haf hJ K' hK
              obtain ⟨vs, rfl, hM, j4⟩ := hJ
              replace hK := Lib.hid hK
              replace hM := Lib.hid hM
              rw [HG.out] at j4
              simp [Region.binds] at haf
              have e26 := ((j4 26 (by simp [haf]))).trans E26.out
              replace j4 := Lib.hid j4
              clear haf hfb
              rw [HLIT.out]
              go_simp
              exact hK.out _ _ (RS.next (wv := wv) (vs := vs) 28 (x := undef) (by rw [HLIT.out]; simp only [upv, e26, Nat.reduceBEq, cond_true, cond_false]) (by rw [HG.out]; exact j4.out) hM.out (by rw [HG.out]; exact fun _ _ h => h) (by rw [HG.out]; exact E28.out.symm))
            · intro bf ac wv hfb haf hJ K' hK
              obtain ⟨vs, rfl, hM, j4⟩ := hJ
              replace hK := Lib.hid hK
              replace hM := Lib.hid hM
              rw [HG.out] at j4
              simp [Region.binds] at haf
              have e26 := ((j4 26 (by simp [haf]))).trans E26.out
              replace j4 := Lib.hid j4
              clear haf hfb
              rw [HLIT.out]
              go_simp
              exact hK.out _ _ (RS.next (wv := wv) (vs := vs) 29 (x := undef) (by rw [HLIT.out]; simp only [upv, e26, Nat.reduceBEq, cond_true, cond_false]) (by rw [HG.out]; exact j4.out) hM.out (by rw [HG.out]; exact fun _ _ h => h) (by rw [HG.out]; exact E29.out.symm))
            · intro bf ac wv hfb haf hJ K' hK
              obtain ⟨vs, rfl, hM, j4⟩ := hJ
              replace hK := Lib.hid hK
              replace hM := Lib.hid hM
              rw [HG.out] at j4
              simp [Region.binds] at haf
              have e23 := ((j4 23 (by simp [haf]))).trans E23.out
              have e26 := ((j4 26 (by simp [haf]))).trans E26.out
              have e29 := ((j4 29 (by simp [haf]))).trans E29.out
              replace j4 := Lib.hid j4
              clear haf hfb
              rw [HLIT.out]
              go_simp
              exact hK.out _ _ (RS.next (wv := wv) (vs := vs) 30 (x := .bool true) (by rw [HLIT.out]; simp only [upv, e23, e26, e29, Nat.reduceBEq, cond_true, cond_false]) (by rw [HG.out]; exact j4.out) hM.out (by rw [HG.out]; exact fun _ _ h => h) (by rw [HG.out]; exact E30.out.symm))
            · intro bf ac wv hfb haf hJ K' hK
              obtain ⟨vs, rfl, hM, j4⟩ := hJ
              replace hK := Lib.hid hK
              replace hM := Lib.hid hM
              rw [HG.out] at j4
              simp [Region.binds] at haf
              have e23 := ((j4 23 (by simp [haf]))).trans E23.out
              have e30 := ((j4 30 (by simp [haf]))).trans E30.out
              replace j4 := Lib.hid j4
              clear haf hfb
              rw [HLIT.out]
              go_simp
              exact hK.out _ _ (RS.next (wv := wv) (vs := vs) 31 (x := .bool true) (by rw [HLIT.out]; simp only [upv, e23, e30, Nat.reduceBEq, cond_true, cond_false]) (by rw [HG.out]; exact j4.out) hM.out (by rw [HG.out]; exact fun _ _ h => h) (by rw [HG.out]; exact E31.out.symm))
            · intro bf ac wv hfb haf hJ K' hK
              obtain ⟨vs, rfl, hM, j4⟩ := hJ
              replace hK := Lib.hid hK
              replace hM := Lib.hid hM
              rw [HG.out] at j4
              simp [Region.binds] at haf
              have e31 := ((j4 31 (by simp [haf]))).trans E31.out
              replace j4 := Lib.hid j4
              clear haf hfb
              rw [HLIT.out]
              go_simp
              exact hK.out _ _ (RS.next (wv := wv) (vs := vs) 32 (x := .bool true) (by rw [HLIT.out]; simp only [upv, e31, Nat.reduceBEq, cond_true, cond_false]) (by rw [HG.out]; exact j4.out) hM.out (by rw [HG.out]; exact fun _ _ h => h) (by rw [HG.out]; exact E32.out.symm))
          · intro bf ac wv hall hJ
            obtain ⟨vs, rfl, hM, j4⟩ := hJ
            rw [HG.out] at j4
            have hlast := ((j4 32 (hall 32 (by decide)))).trans E32.out
            clear j4 hall
            rw [HLIT.out]
            dsimp only
            rw [hlast]
            clear hlast
            go_wp2
            go_ret
            exact ⟨rfl, keep2 hM HBE.out⟩
      · skip
        rw [HOF.out.k1 hz2]
        have g2 : decide (Eb = 0) = false := decide_eq_false hz2
        have g2b : (Eb == 0) = false := by simpa using hz2
        clear hz2
        by_cases hz3 : Ec = 0
        · skip
          have HZC := Lib.hid (HOF.out.z hz3)
          have g3 : (Ec != 0) = false := by rw [hz3]; rfl
          have g3b : (Ec == 0) = true := by rw [hz3]; rfl
          have g3c : decide (Ec = 0) = true := decide_eq_true hz3
          clear hz3
          have x30 : u26.cell? ⟨(u5.heap.size), 0, none⟩ = some (.slice ua3 V3.length uc3) := H130.out.c 0 rfl
          have x31 : u26.cell? ⟨(u5.heap.size), 1, none⟩ = some (.slice fa3 M3.length fc3) := H130.out.c 1 rfl
          have z3 : (u5.heap.size) < u26.heap.size := H130.out.2.2
          go_upto_region 15 with fail
          obtain ⟨wq, hwq⟩ : ∃ z, u26 = z := ⟨_, rfl⟩
          rw [hwq] at H122 H123 H124 H125 H126 H127 H128 H129 H130 HBE ⊢
          clear hwq x30 x31 z3
          obtain ⟨lit, hlit⟩ : ∃ lit : (Nat → Value) → Act, lit = fun vs => { tmps := List.toArray (Value.agg #[Value.slice va V.length vc, Value.slice sa L.length sc] :: Value.agg #[Value.int IntKind.i64 o.a, Value.int IntKind.i64 o.b, Value.int IntKind.i64 o.c, Value.int IntKind.i64 o.d] :: Value.int IntKind.i64 q :: Value.int IntKind.i64 v :: Value.int IntKind.i64 t :: Value.pointer (some { block := w.heap.size, off := 0 }) :: Value.pointer (some { block := w.heap.size + 1, off := 0 }) :: undef :: undef :: undef :: vs 32 :: Value.bool true :: Value.pointer (some { block := u3.heap.size, off := 0 }) :: Value.int IntKind.i64 Ea :: Value.pointer (some { block := u4.heap.size, off := 0 }) :: Value.int IntKind.i64 Eb :: Value.pointer (some { block := u5.heap.size, off := 0 }) :: Value.int IntKind.i64 Ec :: Value.int IntKind.i64 x :: Value.int IntKind.i64 (-1) :: Value.bool true :: Value.agg #[Value.slice va V.length vc, Value.slice sa L.length sc] :: Value.bool true :: Value.bool false :: undef :: Value.tuple #[Value.agg #[Value.slice ua1 V1.length uc1, Value.slice fa1 M1.length fc1], Value.int IntKind.i64 Ea] :: Value.agg #[Value.slice va V.length vc, Value.slice sa L.length sc] :: Value.agg #[Value.int IntKind.i64 o.a, Value.int IntKind.i64 o.b, Value.int IntKind.i64 o.c, Value.int IntKind.i64 o.d] :: Value.tuple #[Value.agg #[Value.slice ua1 V1.length uc1, Value.slice fa1 M1.length fc1], Value.int IntKind.i64 Ea] :: Value.agg #[Value.slice ua1 V1.length uc1, Value.slice fa1 M1.length fc1] :: Value.int IntKind.i64 Ea :: Value.tuple #[Value.agg #[Value.slice ua2 V2.length uc2, Value.slice fa2 M2.length fc2], Value.int IntKind.i64 Eb] :: Value.agg #[Value.slice va V.length vc, Value.slice sa L.length sc] :: Value.int IntKind.i64 q :: Value.tuple #[Value.agg #[Value.slice ua2 V2.length uc2, Value.slice fa2 M2.length fc2], Value.int IntKind.i64 Eb] :: Value.agg #[Value.slice ua2 V2.length uc2, Value.slice fa2 M2.length fc2] :: Value.int IntKind.i64 Eb :: Value.tuple #[Value.agg #[Value.slice ua3 V3.length uc3, Value.slice fa3 M3.length fc3], Value.int IntKind.i64 Ec] :: Value.agg #[Value.slice va V.length vc, Value.slice sa L.length sc] :: Value.int IntKind.i64 v :: Value.int IntKind.i64 t :: Value.tuple #[Value.agg #[Value.slice ua3 V3.length uc3, Value.slice fa3 M3.length fc3], Value.int IntKind.i64 Ec] :: Value.agg #[Value.slice ua3 V3.length uc3, Value.slice fa3 M3.length fc3] :: Value.int IntKind.i64 Ec :: Value.int IntKind.i64 x :: Value.bool false :: u46 :: u47 :: u48 :: u49 :: u50 :: u51 :: u52 :: u53 :: u54 :: u55 :: u56 :: u57 :: u58 :: u59 :: u60 :: u61 :: u62 :: u63 :: u64 :: u65 :: u66 :: u67 :: u68 :: u69 :: u70 :: u71 :: u72 :: u73 :: u74 :: u75 :: u76 :: u77 :: u78 :: u79 :: u80 :: u81 :: u82 :: u83 :: u84 :: u85 :: u86 :: u87 :: u88 :: u89 :: u90 :: u91 :: u92 :: Value.agg #[Value.slice va V.length vc, Value.slice sa L.length sc] :: Value.int IntKind.i64 q :: Value.int IntKind.i64 (-1) :: vs 0 :: vs 1 :: vs 2 :: vs 3 :: vs 4 :: vs 5 :: vs 6 :: vs 7 :: vs 8 :: vs 9 :: vs 10 :: vs 11 :: vs 12 :: vs 13 :: vs 14 :: vs 15 :: vs 16 :: vs 17 :: vs 18 :: vs 19 :: vs 20 :: vs 21 :: vs 22 :: vs 23 :: vs 24 :: vs 25 :: vs 26 :: vs 27 :: vs 28 :: vs 29 :: vs 30 :: vs 31 :: []), defers := [] } := ⟨_, rfl⟩
          have HLIT := Lib.hid hlit
          clear hlit
          obtain ⟨val, hval⟩ : ∃ val : List Value, val = [.bool true, .bool true, .int .i64 Eb, .bool false, .int .i64 (-1), .bool false, .bool true, .bool true, .bool true, .int .i64 (-1), .bool true, .bool true, undef, undef, undef, undef, undef, undef, undef, undef, undef, .bool true, .bool true, .bool true, .int .i64 Ec, .bool false, .bool false, .agg #[.slice ua3 V3.length uc3, .slice fa3 M3.length fc3], .int .i64 v, .bool true, .bool true, .bool true, .bool true] := ⟨_, rfl⟩
          have E0 := Lib.hid (show val.getD 0 undef = .bool true by rw [hval]; rfl)
          have E1 := Lib.hid (show val.getD 1 undef = .bool true by rw [hval]; rfl)
          have E2 := Lib.hid (show val.getD 2 undef = .int .i64 Eb by rw [hval]; rfl)
          have E3 := Lib.hid (show val.getD 3 undef = .bool false by rw [hval]; rfl)
          have E4 := Lib.hid (show val.getD 4 undef = .int .i64 (-1) by rw [hval]; rfl)
          have E5 := Lib.hid (show val.getD 5 undef = .bool false by rw [hval]; rfl)
          have E6 := Lib.hid (show val.getD 6 undef = .bool true by rw [hval]; rfl)
          have E7 := Lib.hid (show val.getD 7 undef = .bool true by rw [hval]; rfl)
          have E8 := Lib.hid (show val.getD 8 undef = .bool true by rw [hval]; rfl)
          have E9 := Lib.hid (show val.getD 9 undef = .int .i64 (-1) by rw [hval]; rfl)
          have E10 := Lib.hid (show val.getD 10 undef = .bool true by rw [hval]; rfl)
          have E11 := Lib.hid (show val.getD 11 undef = .bool true by rw [hval]; rfl)
          have E12 := Lib.hid (show val.getD 12 undef = undef by rw [hval]; rfl)
          have E13 := Lib.hid (show val.getD 13 undef = undef by rw [hval]; rfl)
          have E14 := Lib.hid (show val.getD 14 undef = undef by rw [hval]; rfl)
          have E15 := Lib.hid (show val.getD 15 undef = undef by rw [hval]; rfl)
          have E16 := Lib.hid (show val.getD 16 undef = undef by rw [hval]; rfl)
          have E17 := Lib.hid (show val.getD 17 undef = undef by rw [hval]; rfl)
          have E18 := Lib.hid (show val.getD 18 undef = undef by rw [hval]; rfl)
          have E19 := Lib.hid (show val.getD 19 undef = undef by rw [hval]; rfl)
          have E20 := Lib.hid (show val.getD 20 undef = undef by rw [hval]; rfl)
          have E21 := Lib.hid (show val.getD 21 undef = .bool true by rw [hval]; rfl)
          have E22 := Lib.hid (show val.getD 22 undef = .bool true by rw [hval]; rfl)
          have E23 := Lib.hid (show val.getD 23 undef = .bool true by rw [hval]; rfl)
          have E24 := Lib.hid (show val.getD 24 undef = .int .i64 Ec by rw [hval]; rfl)
          have E25 := Lib.hid (show val.getD 25 undef = .bool false by rw [hval]; rfl)
          have E26 := Lib.hid (show val.getD 26 undef = .bool false by rw [hval]; rfl)
          have E27 := Lib.hid (show val.getD 27 undef = .agg #[.slice ua3 V3.length uc3, .slice fa3 M3.length fc3] by rw [hval]; rfl)
          have E28 := Lib.hid (show val.getD 28 undef = .int .i64 v by rw [hval]; rfl)
          have E29 := Lib.hid (show val.getD 29 undef = .bool true by rw [hval]; rfl)
          have E30 := Lib.hid (show val.getD 30 undef = .bool true by rw [hval]; rfl)
          have E31 := Lib.hid (show val.getD 31 undef = .bool true by rw [hval]; rfl)
          have E32 := Lib.hid (show val.getD 32 undef = .bool true by rw [hval]; rfl)
          clear hval
          obtain ⟨G, hG0⟩ : ∃ G : Nat → Value → World → Prop, G = (fun i v w => (v = val.getD i undef)) := ⟨_, rfl⟩
          have HG := Lib.hid hG0
          clear hG0
          refine region_inv (RS lit wq G) (by kernel_rfl) (by decide +kernel) ?_ ?_ ?_
          · exact ⟨fun i => ([undef, undef, undef, undef, undef, undef, undef, undef, undef, undef, undef, undef, undef, undef, undef, undef, undef, undef, undef, undef, undef, undef, undef, undef, undef, undef, undef, undef, undef, undef, undef, undef, u10] : List Value).getD i undef, (by rw [HLIT.out]; rfl), below_drew _ _, fun i h => by cases h⟩
          · refine ⟨?_, ?_, ?_, ?_, ?_, ?_, ?_, ?_, ?_, ?_, ?_, ?_, ?_, ?_, ?_, ?_, ?_, ?_, ?_, ?_, ?_, ?_, ?_, ?_, ?_, ?_, ?_, ?_, ?_, ?_, ?_, ?_, ?_, trivial⟩
            · intro bf ac wv hfb haf hJ K' hK
              obtain ⟨vs, rfl, hM, j4⟩ := hJ
              replace hK := Lib.hid hK
              replace hM := Lib.hid hM
              rw [HG.out] at j4
              replace j4 := Lib.hid j4
              clear haf hfb
              rw [HLIT.out]
              go_simp
              exact hK.out _ _ (RS.next (wv := wv) (vs := vs) 0 (x := .bool true) (by rw [HLIT.out]; rfl) (by rw [HG.out]; exact j4.out) hM.out (by rw [HG.out]; exact fun _ _ h => h) (by rw [HG.out]; exact E0.out.symm))
            · intro bf ac wv hfb haf hJ K' hK
              obtain ⟨vs, rfl, hM, j4⟩ := hJ
              replace hK := Lib.hid hK
              replace hM := Lib.hid hM
              rw [HG.out] at j4
              simp [Region.binds] at haf
              have e0 := ((j4 0 (by simp [haf]))).trans E0.out
              replace j4 := Lib.hid j4
              clear haf hfb
              rw [HLIT.out]
              go_simp
              exact hK.out _ _ (RS.next (wv := wv) (vs := vs) 1 (x := .bool true) (by rw [HLIT.out]; simp only [upv, e0, Nat.reduceBEq, cond_true, cond_false]) (by rw [HG.out]; exact j4.out) hM.out (by rw [HG.out]; exact fun _ _ h => h) (by rw [HG.out]; exact E1.out.symm))
            · intro bf ac wv hfb haf hJ K' hK
              obtain ⟨vs, rfl, hM, j4⟩ := hJ
              replace hK := Lib.hid hK
              replace hM := Lib.hid hM
              rw [HG.out] at j4
              simp [Region.binds] at haf
              have e1 := ((j4 1 (by simp [haf]))).trans E1.out
              replace j4 := Lib.hid j4
              clear haf hfb
              rw [HLIT.out]
              go_simp
              exact hK.out _ _ (RS.next (wv := wv) (vs := vs) 2 (x := .int .i64 Eb) (by rw [HLIT.out]; simp only [upv, e1, Nat.reduceBEq, cond_true, cond_false]) (by rw [HG.out]; exact j4.out) hM.out (by rw [HG.out]; exact fun _ _ h => h) (by rw [HG.out]; exact E2.out.symm))
            · intro bf ac wv hfb haf hJ K' hK
              obtain ⟨vs, rfl, hM, j4⟩ := hJ
              replace hK := Lib.hid hK
              replace hM := Lib.hid hM
              rw [HG.out] at j4
              simp [Region.binds] at haf
              have e1 := ((j4 1 (by simp [haf]))).trans E1.out
              have e2 := ((j4 2 (by simp [haf]))).trans E2.out
              replace j4 := Lib.hid j4
              clear haf hfb
              rw [HLIT.out]
              go_simp
              exact hK.out _ _ (RS.next (wv := wv) (vs := vs) 3 (x := .bool false) (by rw [HLIT.out]; simp only [upv, e1, e2, Nat.reduceBEq, cond_true, cond_false]) (by rw [HG.out]; exact j4.out) hM.out (by rw [HG.out]; exact fun _ _ h => h) (by rw [HG.out]; exact E3.out.symm))
            · intro bf ac wv hfb haf hJ K' hK
              obtain ⟨vs, rfl, hM, j4⟩ := hJ
              replace hK := Lib.hid hK
              replace hM := Lib.hid hM
              rw [HG.out] at j4
              simp [Region.binds] at haf
              have e1 := ((j4 1 (by simp [haf]))).trans E1.out
              replace j4 := Lib.hid j4
              clear haf hfb
              rw [HLIT.out]
              go_simp
              exact hK.out _ _ (RS.next (wv := wv) (vs := vs) 4 (x := .int .i64 (-1)) (by rw [HLIT.out]; simp only [upv, e1, Nat.reduceBEq, cond_true, cond_false]) (by rw [HG.out]; exact j4.out) hM.out (by rw [HG.out]; exact fun _ _ h => h) (by rw [HG.out]; exact E4.out.symm))
            · intro bf ac wv hfb haf hJ K' hK
              obtain ⟨vs, rfl, hM, j4⟩ := hJ
              replace hK := Lib.hid hK
              replace hM := Lib.hid hM
              rw [HG.out] at j4
              simp [Region.binds] at haf
              have e1 := ((j4 1 (by simp [haf]))).trans E1.out
              have e4 := ((j4 4 (by simp [haf]))).trans E4.out
              replace j4 := Lib.hid j4
              clear haf hfb
              rw [HLIT.out]
              go_simp
              exact hK.out _ _ (RS.next (wv := wv) (vs := vs) 5 (x := .bool false) (by rw [HLIT.out]; simp only [upv, e1, e4, Nat.reduceBEq, cond_true, cond_false]) (by rw [HG.out]; exact j4.out) hM.out (by rw [HG.out]; exact fun _ _ h => h) (by rw [HG.out]; exact E5.out.symm))
            · intro bf ac wv hfb haf hJ K' hK
              obtain ⟨vs, rfl, hM, j4⟩ := hJ
              replace hK := Lib.hid hK
              replace hM := Lib.hid hM
              rw [HG.out] at j4
              simp [Region.binds] at haf
              have e1 := ((j4 1 (by simp [haf]))).trans E1.out
              have e3 := ((j4 3 (by simp [haf]))).trans E3.out
              have e5 := ((j4 5 (by simp [haf]))).trans E5.out
              replace j4 := Lib.hid j4
              clear haf hfb
              rw [HLIT.out]
              go_simp
              exact hK.out _ _ (RS.next (wv := wv) (vs := vs) 6 (x := .bool true) (by rw [HLIT.out]; simp only [upv, e1, e3, e5, Nat.reduceBEq, cond_true, cond_false]) (by rw [HG.out]; exact j4.out) hM.out (by rw [HG.out]; exact fun _ _ h => h) (by rw [HG.out]; exact E6.out.symm))
            · intro bf ac wv hfb haf hJ K' hK
              obtain ⟨vs, rfl, hM, j4⟩ := hJ
              replace hK := Lib.hid hK
              replace hM := Lib.hid hM
              rw [HG.out] at j4
              simp [Region.binds] at haf
              have e1 := ((j4 1 (by simp [haf]))).trans E1.out
              have e6 := ((j4 6 (by simp [haf]))).trans E6.out
              replace j4 := Lib.hid j4
              clear haf hfb
              rw [HLIT.out]
              go_simp
              exact hK.out _ _ (RS.next (wv := wv) (vs := vs) 7 (x := .bool true) (by rw [HLIT.out]; simp only [upv, e1, e6, Nat.reduceBEq, cond_true, cond_false]) (by rw [HG.out]; exact j4.out) hM.out (by rw [HG.out]; exact fun _ _ h => h) (by rw [HG.out]; exact E7.out.symm))
            · intro bf ac wv hfb haf hJ K' hK
              obtain ⟨vs, rfl, hM, j4⟩ := hJ
              replace hK := Lib.hid hK
              replace hM := Lib.hid hM
              rw [HG.out] at j4
              simp [Region.binds] at haf
              have e7 := ((j4 7 (by simp [haf]))).trans E7.out
              replace j4 := Lib.hid j4
              clear haf hfb
              rw [HLIT.out]
              go_simp
              exact hK.out _ _ (RS.next (wv := wv) (vs := vs) 8 (x := .bool true) (by rw [HLIT.out]; simp only [upv, e7, Nat.reduceBEq, cond_true, cond_false]) (by rw [HG.out]; exact j4.out) hM.out (by rw [HG.out]; exact fun _ _ h => h) (by rw [HG.out]; exact E8.out.symm))
            · intro bf ac wv hfb haf hJ K' hK
              obtain ⟨vs, rfl, hM, j4⟩ := hJ
              replace hK := Lib.hid hK
              replace hM := Lib.hid hM
              rw [HG.out] at j4
              simp [Region.binds] at haf
              have e8 := ((j4 8 (by simp [haf]))).trans E8.out
              replace j4 := Lib.hid j4
              clear haf hfb
              rw [HLIT.out]
              go_simp
              exact hK.out _ _ (RS.next (wv := wv) (vs := vs) 9 (x := .int .i64 (-1)) (by rw [HLIT.out]; simp only [upv, e8, Nat.reduceBEq, cond_true, cond_false]) (by rw [HG.out]; exact j4.out) hM.out (by rw [HG.out]; exact fun _ _ h => h) (by rw [HG.out]; exact E9.out.symm))
            · intro bf ac wv hfb haf hJ K' hK
              obtain ⟨vs, rfl, hM, j4⟩ := hJ
              replace hK := Lib.hid hK
              replace hM := Lib.hid hM
              rw [HG.out] at j4
              simp [Region.binds] at haf
              have e8 := ((j4 8 (by simp [haf]))).trans E8.out
              have e9 := ((j4 9 (by simp [haf]))).trans E9.out
              replace j4 := Lib.hid j4
              clear haf hfb
              rw [HLIT.out]
              go_simp
              exact hK.out _ _ (RS.next (wv := wv) (vs := vs) 10 (x := .bool true) (by rw [HLIT.out]; simp only [upv, e8, e9, Nat.reduceBEq, cond_true, cond_false]) (by rw [HG.out]; exact j4.out) hM.out (by rw [HG.out]; exact fun _ _ h => h) (by rw [HG.out]; exact E10.out.symm))
            · intro bf ac wv hfb haf hJ K' hK
              obtain ⟨vs, rfl, hM, j4⟩ := hJ
              replace hK := Lib.hid hK
              replace hM := Lib.hid hM
              rw [HG.out] at j4
              simp [Region.binds] at haf
              have e8 := ((j4 8 (by simp [haf]))).trans E8.out
              have e10 := ((j4 10 (by simp [haf]))).trans E10.out
              replace j4 := Lib.hid j4
              clear haf hfb
              rw [HLIT.out]
              go_simp
              exact hK.out _ _ (RS.next (wv := wv) (vs := vs) 11 (x := .bool true) (by rw [HLIT.out]; simp only [upv, e8, e10, Nat.reduceBEq, cond_true, cond_false]) (by rw [HG.out]; exact j4.out) hM.out (by rw [HG.out]; exact fun _ _ h => h) (by rw [HG.out]; exact E11.out.symm))
            · intro bf ac wv hfb haf hJ K' hK
              obtain ⟨vs, rfl, hM, j4⟩ := hJ
              replace hK := Lib.hid hK
              replace hM := Lib.hid hM
              rw [HG.out] at j4
              simp [Region.binds] at haf
              have e11 := ((j4 11 (by simp [haf]))).trans E11.out
              replace j4 := Lib.hid j4
              clear haf hfb
              rw [HLIT.out]
              go_simp
              exact hK.out _ _ (RS.next (wv := wv) (vs := vs) 12 (x := undef) (by rw [HLIT.out]; simp only [upv, e11, Nat.reduceBEq, cond_true, cond_false]) (by rw [HG.out]; exact j4.out) hM.out (by rw [HG.out]; exact fun _ _ h => h) (by rw [HG.out]; exact E12.out.symm))
            · intro bf ac wv hfb haf hJ K' hK
              obtain ⟨vs, rfl, hM, j4⟩ := hJ
              replace hK := Lib.hid hK
              replace hM := Lib.hid hM
              rw [HG.out] at j4
              simp [Region.binds] at haf
              have e11 := ((j4 11 (by simp [haf]))).trans E11.out
              replace j4 := Lib.hid j4
              clear haf hfb
              rw [HLIT.out]
              go_simp
              exact hK.out _ _ (RS.next (wv := wv) (vs := vs) 13 (x := undef) (by rw [HLIT.out]; simp only [upv, e11, Nat.reduceBEq, cond_true, cond_false]) (by rw [HG.out]; exact j4.out) hM.out (by rw [HG.out]; exact fun _ _ h => h) (by rw [HG.out]; exact E13.out.symm))
            · intro bf ac wv hfb haf hJ K' hK
              obtain ⟨vs, rfl, hM, j4⟩ := hJ
              replace hK := Lib.hid hK
              replace hM := Lib.hid hM
              rw [HG.out] at j4
              simp [Region.binds] at haf
              have e11 := ((j4 11 (by simp [haf]))).trans E11.out
              replace j4 := Lib.hid j4
              clear haf hfb
              rw [HLIT.out]
              go_simp
              exact hK.out _ _ (RS.next (wv := wv) (vs := vs) 14 (x := undef) (by rw [HLIT.out]; simp only [upv, e11, Nat.reduceBEq, cond_true, cond_false]) (by rw [HG.out]; exact j4.out) hM.out (by rw [HG.out]; exact fun _ _ h => h) (by rw [HG.out]; exact E14.out.symm))
            · intro bf ac wv hfb haf hJ K' hK
              obtain ⟨vs, rfl, hM, j4⟩ := hJ
              replace hK := Lib.hid hK
              replace hM := Lib.hid hM
              rw [HG.out] at j4
              simp [Region.binds] at haf
              have e11 := ((j4 11 (by simp [haf]))).trans E11.out
              replace j4 := Lib.hid j4
              clear haf hfb
              rw [HLIT.out]
              go_simp
              exact hK.out _ _ (RS.next (wv := wv) (vs := vs) 15 (x := undef) (by rw [HLIT.out]; simp only [upv, e11, Nat.reduceBEq, cond_true, cond_false]) (by rw [HG.out]; exact j4.out) hM.out (by rw [HG.out]; exact fun _ _ h => h) (by rw [HG.out]; exact E15.out.symm))
            · intro bf ac wv hfb haf hJ K' hK
              obtain ⟨vs, rfl, hM, j4⟩ := hJ
              replace hK := Lib.hid hK
              replace hM := Lib.hid hM
              rw [HG.out] at j4
              simp [Region.binds] at haf
              have e11 := ((j4 11 (by simp [haf]))).trans E11.out
              replace j4 := Lib.hid j4
              clear haf hfb
              rw [HLIT.out]
              go_simp
              exact hK.out _ _ (RS.next (wv := wv) (vs := vs) 16 (x := undef) (by rw [HLIT.out]; simp only [upv, e11, Nat.reduceBEq, cond_true, cond_false]) (by rw [HG.out]; exact j4.out) hM.out (by rw [HG.out]; exact fun _ _ h => h) (by rw [HG.out]; exact E16.out.symm))
            · intro bf ac wv hfb haf hJ K' hK
              obtain ⟨vs, rfl, hM, j4⟩ := hJ
              replace hK := Lib.hid hK
              replace hM := Lib.hid hM
              rw [HG.out] at j4
              simp [Region.binds] at haf
              have e11 := ((j4 11 (by simp [haf]))).trans E11.out
              replace j4 := Lib.hid j4
              clear haf hfb
              rw [HLIT.out]
              go_simp
              exact hK.out _ _ (RS.next (wv := wv) (vs := vs) 17 (x := undef) (by rw [HLIT.out]; simp only [upv, e11, Nat.reduceBEq, cond_true, cond_false]) (by rw [HG.out]; exact j4.out) hM.out (by rw [HG.out]; exact fun _ _ h => h) (by rw [HG.out]; exact E17.out.symm))
            · intro bf ac wv hfb haf hJ K' hK
              obtain ⟨vs, rfl, hM, j4⟩ := hJ
              replace hK := Lib.hid hK
              replace hM := Lib.hid hM
              rw [HG.out] at j4
              simp [Region.binds] at haf
              have e11 := ((j4 11 (by simp [haf]))).trans E11.out
              replace j4 := Lib.hid j4
              clear haf hfb
              rw [HLIT.out]
              go_simp
              exact hK.out _ _ (RS.next (wv := wv) (vs := vs) 18 (x := undef) (by rw [HLIT.out]; simp only [upv, e11, Nat.reduceBEq, cond_true, cond_false]) (by rw [HG.out]; exact j4.out) hM.out (by rw [HG.out]; exact fun _ _ h => h) (by rw [HG.out]; exact E18.out.symm))
            · intro bf ac wv hfb haf hJ K' hK
              obtain ⟨vs, rfl, hM, j4⟩ := hJ
              replace hK := Lib.hid hK
              replace hM := Lib.hid hM
              rw [HG.out] at j4
              simp [Region.binds] at haf
              have e11 := ((j4 11 (by simp [haf]))).trans E11.out
              replace j4 := Lib.hid j4
              clear haf hfb
              rw [HLIT.out]
              go_simp
              exact hK.out _ _ (RS.next (wv := wv) (vs := vs) 19 (x := undef) (by rw [HLIT.out]; simp only [upv, e11, Nat.reduceBEq, cond_true, cond_false]) (by rw [HG.out]; exact j4.out) hM.out (by rw [HG.out]; exact fun _ _ h => h) (by rw [HG.out]; exact E19.out.symm))
            · intro bf ac wv hfb haf hJ K' hK
              obtain ⟨vs, rfl, hM, j4⟩ := hJ
              replace hK := Lib.hid hK
              replace hM := Lib.hid hM
              rw [HG.out] at j4
              simp [Region.binds] at haf
              have e11 := ((j4 11 (by simp [haf]))).trans E11.out
              replace j4 := Lib.hid j4
              clear haf hfb
              rw [HLIT.out]
              go_simp
              exact hK.out _ _ (RS.next (wv := wv) (vs := vs) 20 (x := undef) (by rw [HLIT.out]; simp only [upv, e11, Nat.reduceBEq, cond_true, cond_false]) (by rw [HG.out]; exact j4.out) hM.out (by rw [HG.out]; exact fun _ _ h => h) (by rw [HG.out]; exact E20.out.symm))
            · intro bf ac wv hfb haf hJ K' hK
              obtain ⟨vs, rfl, hM, j4⟩ := hJ
              replace hK := Lib.hid hK
              replace hM := Lib.hid hM
              rw [HG.out] at j4
              simp [Region.binds] at haf
              have e8 := ((j4 8 (by simp [haf]))).trans E8.out
              have e11 := ((j4 11 (by simp [haf]))).trans E11.out
              have e20 := ((j4 20 (by simp [haf]))).trans E20.out
              replace j4 := Lib.hid j4
              clear haf hfb
              rw [HLIT.out]
              go_simp
              exact hK.out _ _ (RS.next (wv := wv) (vs := vs) 21 (x := .bool true) (by rw [HLIT.out]; simp only [upv, e8, e11, e20, Nat.reduceBEq, cond_true, cond_false]) (by rw [HG.out]; exact j4.out) hM.out (by rw [HG.out]; exact fun _ _ h => h) (by rw [HG.out]; exact E21.out.symm))
            · intro bf ac wv hfb haf hJ K' hK
              obtain ⟨vs, rfl, hM, j4⟩ := hJ
              replace hK := Lib.hid hK
              replace hM := Lib.hid hM
              rw [HG.out] at j4
              simp [Region.binds] at haf
              have e8 := ((j4 8 (by simp [haf]))).trans E8.out
              have e21 := ((j4 21 (by simp [haf]))).trans E21.out
              replace j4 := Lib.hid j4
              clear haf hfb
              rw [HLIT.out]
              go_simp
              exact hK.out _ _ (RS.next (wv := wv) (vs := vs) 22 (x := .bool true) (by rw [HLIT.out]; simp only [upv, e8, e21, Nat.reduceBEq, cond_true, cond_false]) (by rw [HG.out]; exact j4.out) hM.out (by rw [HG.out]; exact fun _ _ h => h) (by rw [HG.out]; exact E22.out.symm))
            · intro bf ac wv hfb haf hJ K' hK
              obtain ⟨vs, rfl, hM, j4⟩ := hJ
              replace hK := Lib.hid hK
              replace hM := Lib.hid hM
              rw [HG.out] at j4
              simp [Region.binds] at haf
              have e22 := ((j4 22 (by simp [haf]))).trans E22.out
              replace j4 := Lib.hid j4
              clear haf hfb
              rw [HLIT.out]
              go_simp
              exact hK.out _ _ (RS.next (wv := wv) (vs := vs) 23 (x := .bool true) (by rw [HLIT.out]; simp only [upv, e22, Nat.reduceBEq, cond_true, cond_false]) (by rw [HG.out]; exact j4.out) hM.out (by rw [HG.out]; exact fun _ _ h => h) (by rw [HG.out]; exact E23.out.symm))
            · intro bf ac wv hfb haf hJ K' hK
              obtain ⟨vs, rfl, hM, j4⟩ := hJ
              replace hK := Lib.hid hK
              replace hM := Lib.hid hM
              rw [HG.out] at j4
              simp [Region.binds] at haf
              have e23 := ((j4 23 (by simp [haf]))).trans E23.out
              replace j4 := Lib.hid j4
              clear haf hfb
              rw [HLIT.out]
              go_simp
              exact hK.out _ _ (RS.next (wv := wv) (vs := vs) 24 (x := .int .i64 Ec) (by rw [HLIT.out]; simp only [upv, e23, Nat.reduceBEq, cond_true, cond_false]) (by rw [HG.out]; exact j4.out) hM.out (by rw [HG.out]; exact fun _ _ h => h) (by rw [HG.out]; exact E24.out.symm))
            · intro bf ac wv hfb haf hJ K' hK
              obtain ⟨vs, rfl, hM, j4⟩ := hJ
              replace hK := Lib.hid hK
              replace hM := Lib.hid hM
              rw [HG.out] at j4
              simp [Region.binds] at haf
              have e23 := ((j4 23 (by simp [haf]))).trans E23.out
              have e24 := ((j4 24 (by simp [haf]))).trans E24.out
              replace j4 := Lib.hid j4
              clear haf hfb
              rw [HLIT.out]
              go_simp
              exact hK.out _ _ (RS.next (wv := wv) (vs := vs) 25 (x := .bool false) (by rw [HLIT.out]; simp only [upv, e23, e24, Nat.reduceBEq, cond_true, cond_false]) (by rw [HG.out]; exact j4.out) hM.out (by rw [HG.out]; exact fun _ _ h => h) (by rw [HG.out]; exact E25.out.symm))
            · intro bf ac wv hfb haf hJ K' hK
              obtain ⟨vs, rfl, hM, j4⟩ := hJ
              replace hK := Lib.hid hK
              replace hM := Lib.hid hM
              rw [HG.out] at j4
              simp [Region.binds] at haf
              have e23 := ((j4 23 (by simp [haf]))).trans E23.out
              have e25 := ((j4 25 (by simp [haf]))).trans E25.out
              replace j4 := Lib.hid j4
              clear haf hfb
              rw [HLIT.out]
              go_simp
              exact hK.out _ _ (RS.next (wv := wv) (vs := vs) 26 (x := .bool false) (by rw [HLIT.out]; simp only [upv, e23, e25, Nat.reduceBEq, cond_true, cond_false]) (by rw [HG.out]; exact j4.out) hM.out (by rw [HG.out]; exact fun _ _ h => h) (by rw [HG.out]; exact E26.out.symm))
            · intro bf ac wv hfb haf hJ K' hK
              obtain ⟨vs, rfl, hM, j4⟩ := hJ
              replace hK := Lib.hid hK
              replace hM := Lib.hid hM
              rw [HG.out] at j4
              simp [Region.binds] at haf
              have e26 := ((j4 26 (by simp [haf]))).trans E26.out
              replace j4 := Lib.hid j4
              clear haf hfb
              have xx := H130.out.step hM.out
              have xx0 := xx.c 0 rfl
              have xx1 := xx.c 1 rfl
              have xxz := xx.2.2
              clear xx
              rw [HLIT.out]
              go_simp
              exact hK.out _ _ (RS.next (wv := wv) (vs := vs) 27 (x := .agg #[.slice ua3 V3.length uc3, .slice fa3 M3.length fc3]) (by rw [HLIT.out]; simp only [upv, e26, Nat.reduceBEq, cond_true, cond_false]) (by rw [HG.out]; exact j4.out) hM.out (by rw [HG.out]; exact fun _ _ h => h) (by rw [HG.out]; exact E27.out.symm))
            · intro bf ac wv hfb haf hJ K' hK
              obtain ⟨vs, rfl, hM, j4⟩ := hJ
              replace hK := Lib.hid hK
              replace hM := Lib.hid hM
              rw [HG.out] at j4
              simp [Region.binds] at haf
              have e26 := ((j4 26 (by simp [haf]))).trans E26.out
              replace j4 := Lib.hid j4
              clear haf hfb
              rw [HLIT.out]
              go_simp
              exact hK.out _ _ (RS.next (wv := wv) (vs := vs) 28 (x := .int .i64 v) (by rw [HLIT.out]; simp only [upv, e26, Nat.reduceBEq, cond_true, cond_false]) (by rw [HG.out]; exact j4.out) hM.out (by rw [HG.out]; exact fun _ _ h => h) (by rw [HG.out]; exact E28.out.symm))
            · intro bf ac wv hfb haf hJ K' hK
              obtain ⟨vs, rfl, hM, j4⟩ := hJ
              replace hK := Lib.hid hK
              replace hM := Lib.hid hM
              rw [HG.out] at j4
              simp [Region.binds] at haf
              have e26 := ((j4 26 (by simp [haf]))).trans E26.out
              have e27 := ((j4 27 (by simp [haf]))).trans E27.out
              have e28 := ((j4 28 (by simp [haf]))).trans E28.out
              replace j4 := Lib.hid j4
              clear haf hfb
              rw [HLIT.out]
              go_simp
              go_at_call 20
              refine (can_q _ _ V3 v true HZC.out _ (H129.out.1.step hM.out) HL3.out).mono ?_
              rintro e w4 ⟨rfl, b4⟩
              exact hK.out _ _ (RS.next (wv := wv) (vs := vs) 29 (x := .bool true) (by rw [HLIT.out]; simp only [upv, e26, e27, e28, Nat.reduceBEq, cond_true, cond_false]) (by rw [HG.out]; exact j4.out) (keep2 b4 hM.out) (by rw [HG.out]; exact fun _ _ h => h) (by rw [HG.out]; exact E29.out.symm))
            · intro bf ac wv hfb haf hJ K' hK
              obtain ⟨vs, rfl, hM, j4⟩ := hJ
              replace hK := Lib.hid hK
              replace hM := Lib.hid hM
              rw [HG.out] at j4
              simp [Region.binds] at haf
              have e23 := ((j4 23 (by simp [haf]))).trans E23.out
              have e26 := ((j4 26 (by simp [haf]))).trans E26.out
              have e29 := ((j4 29 (by simp [haf]))).trans E29.out
              replace j4 := Lib.hid j4
              clear haf hfb
              rw [HLIT.out]
              go_simp
              exact hK.out _ _ (RS.next (wv := wv) (vs := vs) 30 (x := .bool true) (by rw [HLIT.out]; simp only [upv, e23, e26, e29, Nat.reduceBEq, cond_true, cond_false]) (by rw [HG.out]; exact j4.out) hM.out (by rw [HG.out]; exact fun _ _ h => h) (by rw [HG.out]; exact E30.out.symm))
            · intro bf ac wv hfb haf hJ K' hK
              obtain ⟨vs, rfl, hM, j4⟩ := hJ
              replace hK := Lib.hid hK
              replace hM := Lib.hid hM
              rw [HG.out] at j4
              simp [Region.binds] at haf
              have e23 := ((j4 23 (by simp [haf]))).trans E23.out
              have e30 := ((j4 30 (by simp [haf]))).trans E30.out
              replace j4 := Lib.hid j4
              clear haf hfb
              rw [HLIT.out]
              go_simp
              exact hK.out _ _ (RS.next (wv := wv) (vs := vs) 31 (x := .bool true) (by rw [HLIT.out]; simp only [upv, e23, e30, Nat.reduceBEq, cond_true, cond_false]) (by rw [HG.out]; exact j4.out) hM.out (by rw [HG.out]; exact fun _ _ h => h) (by rw [HG.out]; exact E31.out.symm))
            · intro bf ac wv hfb haf hJ K' hK
              obtain ⟨vs, rfl, hM, j4⟩ := hJ
              replace hK := Lib.hid hK
              replace hM := Lib.hid hM
              rw [HG.out] at j4
              simp [Region.binds] at haf
              have e31 := ((j4 31 (by simp [haf]))).trans E31.out
              replace j4 := Lib.hid j4
              clear haf hfb
              rw [HLIT.out]
              go_simp
              exact hK.out _ _ (RS.next (wv := wv) (vs := vs) 32 (x := .bool true) (by rw [HLIT.out]; simp only [upv, e31, Nat.reduceBEq, cond_true, cond_false]) (by rw [HG.out]; exact j4.out) hM.out (by rw [HG.out]; exact fun _ _ h => h) (by rw [HG.out]; exact E32.out.symm))
          · intro bf ac wv hall hJ
            obtain ⟨vs, rfl, hM, j4⟩ := hJ
            rw [HG.out] at j4
            have hlast := ((j4 32 (hall 32 (by decide)))).trans E32.out
            clear j4 hall
            rw [HLIT.out]
            dsimp only
            rw [hlast]
            clear hlast
            go_wp2
            go_ret
            exact ⟨rfl, keep2 hM HBE.out⟩
        · skip
          have g3 : (Ec != 0) = true := by simpa using hz3
          have g3b : (Ec == 0) = false := by simpa using hz3
          have g3c : decide (Ec = 0) = false := decide_eq_false hz3
          clear hz3
          have x30 : u26.cell? ⟨(u5.heap.size), 0, none⟩ = some (.slice ua3 V3.length uc3) := H130.out.c 0 rfl
          have x31 : u26.cell? ⟨(u5.heap.size), 1, none⟩ = some (.slice fa3 M3.length fc3) := H130.out.c 1 rfl
          have z3 : (u5.heap.size) < u26.heap.size := H130.out.2.2
          go_upto_region 15 with fail
          go_quiet (fail)
          go_wp2
          go_ret
          exact ⟨rfl, HBE.out.trans (below_drewN' _ _ _)⟩
    have HX := Lib.hid (And.intro hx1 hx2)
    have HLT := Lib.hid hlt
    have H112 := Lib.hid (H52.out.step HW.out)
    have H113 := Lib.hid (H53.out.step HW.out)
    have H114 := Lib.hid (H54.out.step HW.out)
    have H115 := Lib.hid (H55.out.step HW.out)
    have H116 := Lib.hid (H56.out.step HW.out)
    have H117 := Lib.hid (H57.out.step HW.out)
    have H118 := Lib.hid (H58.out.step HW.out)
    have H119 := Lib.hid (H59.out.step HW.out)
    have H120 := Lib.hid (H61.out.step HW.out)
    have H121 := HW
    have x16 : x ≤ 16 := hlt
    go_upto_region 10 with fail
    go_cut [64] from 48 to 63 (fun p wc => p = .bool false ∧ Below wr.heap.size wr wc)
    case first =>
      have x10 : wr.cell? ⟨(u3.heap.size), 0, none⟩ = some (.slice ua1 V1.length uc1) := H116.out.c 0 rfl
      have x11 : wr.cell? ⟨(u3.heap.size), 1, none⟩ = some (.slice fa1 M1.length fc1) := H116.out.c 1 rfl
      have z1 : (u3.heap.size) < wr.heap.size := H116.out.2.2
      have xb0 : wr.cell? ⟨(w.heap.size), 0, none⟩ = some (.slice va V.length vc) := H113.out.c 0 rfl
      have xb1 : wr.cell? ⟨(w.heap.size), 1, none⟩ = some (.slice sa L.length sc) := H113.out.c 1 rfl
      have zb : (w.heap.size) < wr.heap.size := H113.out.2.2
      have xo0 : wr.cell? ⟨(w.heap.size + 1), 0, none⟩ = some (.int .i64 o.a) := H114.out.c 0 rfl
      have xo1 : wr.cell? ⟨(w.heap.size + 1), 1, none⟩ = some (.int .i64 o.b) := H114.out.c 1 rfl
      have xo2 : wr.cell? ⟨(w.heap.size + 1), 2, none⟩ = some (.int .i64 o.c) := H114.out.c 2 rfl
      have xo3 : wr.cell? ⟨(w.heap.size + 1), 3, none⟩ = some (.int .i64 o.d) := H114.out.c 3 rfl
      have zo : (w.heap.size + 1) < wr.heap.size := H114.out.2.2
      by_cases hz1 : Ea = 0
      rotate_left
      · have g1 : (Ea == 0) = false := by simpa using hz1
        have g1b : decide (Ea = 0) = false := decide_eq_false hz1
        go_quiet (fail)
        go_wp2
        go_meet
        exact ⟨rfl, below_drewN' _ _ _⟩
      have HS := Lib.hid (HOF.out.s hz1 x)
      have g1 : (Ea == 0) = true := by rw [hz1]; rfl
      have g1b : decide (Ea = 0) = true := decide_eq_true hz1
      clear hz1
      by_cases hd : x = o.d
      clear x10 x11 z1 xb0 xb1 zb xo0 xo1 xo2 xo3 zo
      · have HS1 := Lib.hid (show V1.contains x = true by rw [HS.out, decide_eq_true hd]; rfl)
        have HDD := Lib.hid hd
        clear hd
        obtain ⟨lit, hlit⟩ : ∃ lit : (Nat → Value) → Act, lit = fun vs => { tmps := List.toArray (Value.agg #[Value.slice va V.length vc, Value.slice sa L.length sc] :: Value.agg #[Value.int IntKind.i64 o.a, Value.int IntKind.i64 o.b, Value.int IntKind.i64 o.c, Value.int IntKind.i64 o.d] :: Value.int IntKind.i64 q :: Value.int IntKind.i64 v :: Value.int IntKind.i64 t :: Value.pointer (some { block := w.heap.size, off := 0 }) :: Value.pointer (some { block := w.heap.size + 1, off := 0 }) :: undef :: undef :: undef :: u10 :: Value.bool true :: Value.pointer (some { block := u3.heap.size, off := 0 }) :: Value.int IntKind.i64 Ea :: Value.pointer (some { block := u4.heap.size, off := 0 }) :: Value.int IntKind.i64 Eb :: Value.pointer (some { block := u5.heap.size, off := 0 }) :: Value.int IntKind.i64 Ec :: Value.int IntKind.i64 x :: undef :: Value.bool true :: Value.agg #[Value.slice va V.length vc, Value.slice sa L.length sc] :: Value.bool true :: Value.bool false :: undef :: Value.tuple #[Value.agg #[Value.slice ua1 V1.length uc1, Value.slice fa1 M1.length fc1], Value.int IntKind.i64 Ea] :: Value.agg #[Value.slice va V.length vc, Value.slice sa L.length sc] :: Value.agg #[Value.int IntKind.i64 o.a, Value.int IntKind.i64 o.b, Value.int IntKind.i64 o.c, Value.int IntKind.i64 o.d] :: Value.tuple #[Value.agg #[Value.slice ua1 V1.length uc1, Value.slice fa1 M1.length fc1], Value.int IntKind.i64 Ea] :: Value.agg #[Value.slice ua1 V1.length uc1, Value.slice fa1 M1.length fc1] :: Value.int IntKind.i64 Ea :: Value.tuple #[Value.agg #[Value.slice ua2 V2.length uc2, Value.slice fa2 M2.length fc2], Value.int IntKind.i64 Eb] :: Value.agg #[Value.slice va V.length vc, Value.slice sa L.length sc] :: Value.int IntKind.i64 q :: Value.tuple #[Value.agg #[Value.slice ua2 V2.length uc2, Value.slice fa2 M2.length fc2], Value.int IntKind.i64 Eb] :: Value.agg #[Value.slice ua2 V2.length uc2, Value.slice fa2 M2.length fc2] :: Value.int IntKind.i64 Eb :: Value.tuple #[Value.agg #[Value.slice ua3 V3.length uc3, Value.slice fa3 M3.length fc3], Value.int IntKind.i64 Ec] :: Value.agg #[Value.slice va V.length vc, Value.slice sa L.length sc] :: Value.int IntKind.i64 v :: Value.int IntKind.i64 t :: Value.tuple #[Value.agg #[Value.slice ua3 V3.length uc3, Value.slice fa3 M3.length fc3], Value.int IntKind.i64 Ec] :: Value.agg #[Value.slice ua3 V3.length uc3, Value.slice fa3 M3.length fc3] :: Value.int IntKind.i64 Ec :: Value.int IntKind.i64 x :: Value.bool true :: u46 :: u47 :: vs 0 :: vs 1 :: vs 2 :: vs 3 :: vs 4 :: vs 5 :: vs 6 :: vs 7 :: vs 8 :: vs 9 :: vs 10 :: vs 11 :: vs 12 :: vs 13 :: vs 14 :: vs 15 :: vs 16 :: u65 :: u66 :: u67 :: u68 :: u69 :: u70 :: u71 :: u72 :: u73 :: u74 :: u75 :: u76 :: u77 :: u78 :: u79 :: u80 :: u81 :: u82 :: u83 :: u84 :: u85 :: u86 :: u87 :: u88 :: u89 :: u90 :: u91 :: u92 :: undef :: undef :: undef :: undef :: undef :: undef :: undef :: undef :: undef :: undef :: undef :: undef :: undef :: undef :: undef :: undef :: undef :: undef :: undef :: undef :: undef :: undef :: undef :: undef :: undef :: undef :: undef :: undef :: undef :: undef :: undef :: undef :: undef :: undef :: undef :: []), defers := [] } := ⟨_, rfl⟩
        have HLIT := Lib.hid hlit
        clear hlit
        obtain ⟨val, hval⟩ : ∃ val : List Value, val = [.int .i64 Ea, .bool true, .bool true, .agg #[.slice ua1 V1.length uc1, .slice fa1 M1.length fc1], .int .i64 x, .bool true, .int .i64 x, .pointer (some ⟨(w.heap.size + 1), 3, none⟩), .int .i64 x, .bool true, .bool true, undef, undef, undef, .bool true, .bool false, .bool false] := ⟨_, rfl⟩
        have E0 := Lib.hid (show val.getD 0 undef = .int .i64 Ea by rw [hval]; rfl)
        have E1 := Lib.hid (show val.getD 1 undef = .bool true by rw [hval]; rfl)
        have E2 := Lib.hid (show val.getD 2 undef = .bool true by rw [hval]; rfl)
        have E3 := Lib.hid (show val.getD 3 undef = .agg #[.slice ua1 V1.length uc1, .slice fa1 M1.length fc1] by rw [hval]; rfl)
        have E4 := Lib.hid (show val.getD 4 undef = .int .i64 x by rw [hval]; rfl)
        have E5 := Lib.hid (show val.getD 5 undef = .bool true by rw [hval]; rfl)
        have E6 := Lib.hid (show val.getD 6 undef = .int .i64 x by rw [hval]; rfl)
        have E7 := Lib.hid (show val.getD 7 undef = .pointer (some ⟨(w.heap.size + 1), 3, none⟩) by rw [hval]; rfl)
        have E8 := Lib.hid (show val.getD 8 undef = .int .i64 x by rw [hval]; rfl)
        have E9 := Lib.hid (show val.getD 9 undef = .bool true by rw [hval]; rfl)
        have E10 := Lib.hid (show val.getD 10 undef = .bool true by rw [hval]; rfl)
        have E11 := Lib.hid (show val.getD 11 undef = undef by rw [hval]; rfl)
        have E12 := Lib.hid (show val.getD 12 undef = undef by rw [hval]; rfl)
        have E13 := Lib.hid (show val.getD 13 undef = undef by rw [hval]; rfl)
        have E14 := Lib.hid (show val.getD 14 undef = .bool true by rw [hval]; rfl)
        have E15 := Lib.hid (show val.getD 15 undef = .bool false by rw [hval]; rfl)
        have E16 := Lib.hid (show val.getD 16 undef = .bool false by rw [hval]; rfl)
        clear hval
        obtain ⟨G, hG0⟩ : ∃ G : Nat → Value → World → Prop, G = (fun i v w => (v = val.getD i undef)) := ⟨_, rfl⟩
        have HG := Lib.hid hG0
        clear hG0
        refine region_inv (RS lit wr G) (by kernel_rfl) (by decide +kernel) ?_ ?_ ?_
        · exact ⟨fun i => ([u48, u49, u50, u51, u52, u53, u54, u55, u56, u57, u58, u59, u60, u61, u62, u63, u64] : List Value).getD i undef, (by rw [HLIT.out]; rfl), below_drew _ _, fun i h => by cases h⟩
        · refine ⟨?_, ?_, ?_, ?_, ?_, ?_, ?_, ?_, ?_, ?_, ?_, ?_, ?_, ?_, ?_, ?_, ?_, trivial⟩
          · intro bf ac wv hfb haf hJ K' hK
            obtain ⟨vs, rfl, hM, j4⟩ := hJ
            replace hK := Lib.hid hK
            replace hM := Lib.hid hM
            rw [HG.out] at j4
            replace j4 := Lib.hid j4
            clear haf hfb
            rw [HLIT.out]
            go_simp
            exact hK.out _ _ (RS.next (wv := wv) (vs := vs) 0 (x := .int .i64 Ea) (by rw [HLIT.out]; rfl) (by rw [HG.out]; exact j4.out) hM.out (by rw [HG.out]; exact fun _ _ h => h) (by rw [HG.out]; exact E0.out.symm))
          · intro bf ac wv hfb haf hJ K' hK
            obtain ⟨vs, rfl, hM, j4⟩ := hJ
            replace hK := Lib.hid hK
            replace hM := Lib.hid hM
            rw [HG.out] at j4
            simp [Region.binds] at haf
            have e0 := ((j4 0 (by simp [haf]))).trans E0.out
            replace j4 := Lib.hid j4
            clear haf hfb
            rw [HLIT.out]
            go_simp
            exact hK.out _ _ (RS.next (wv := wv) (vs := vs) 1 (x := .bool true) (by rw [HLIT.out]; simp only [upv, e0, Nat.reduceBEq, cond_true, cond_false]) (by rw [HG.out]; exact j4.out) hM.out (by rw [HG.out]; exact fun _ _ h => h) (by rw [HG.out]; exact E1.out.symm))
          · intro bf ac wv hfb haf hJ K' hK
            obtain ⟨vs, rfl, hM, j4⟩ := hJ
            replace hK := Lib.hid hK
            replace hM := Lib.hid hM
            rw [HG.out] at j4
            simp [Region.binds] at haf
            have e1 := ((j4 1 (by simp [haf]))).trans E1.out
            replace j4 := Lib.hid j4
            clear haf hfb
            rw [HLIT.out]
            go_simp
            exact hK.out _ _ (RS.next (wv := wv) (vs := vs) 2 (x := .bool true) (by rw [HLIT.out]; simp only [upv, e1, Nat.reduceBEq, cond_true, cond_false]) (by rw [HG.out]; exact j4.out) hM.out (by rw [HG.out]; exact fun _ _ h => h) (by rw [HG.out]; exact E2.out.symm))
          · intro bf ac wv hfb haf hJ K' hK
            obtain ⟨vs, rfl, hM, j4⟩ := hJ
            replace hK := Lib.hid hK
            replace hM := Lib.hid hM
            rw [HG.out] at j4
            simp [Region.binds] at haf
            have e2 := ((j4 2 (by simp [haf]))).trans E2.out
            replace j4 := Lib.hid j4
            clear haf hfb
            have xx := H116.out.step hM.out
            have xx0 := xx.c 0 rfl
            have xx1 := xx.c 1 rfl
            have xxz := xx.2.2
            clear xx
            rw [HLIT.out]
            go_simp
            exact hK.out _ _ (RS.next (wv := wv) (vs := vs) 3 (x := .agg #[.slice ua1 V1.length uc1, .slice fa1 M1.length fc1]) (by rw [HLIT.out]; simp only [upv, e2, Nat.reduceBEq, cond_true, cond_false]) (by rw [HG.out]; exact j4.out) hM.out (by rw [HG.out]; exact fun _ _ h => h) (by rw [HG.out]; exact E3.out.symm))
          · intro bf ac wv hfb haf hJ K' hK
            obtain ⟨vs, rfl, hM, j4⟩ := hJ
            replace hK := Lib.hid hK
            replace hM := Lib.hid hM
            rw [HG.out] at j4
            simp [Region.binds] at haf
            have e2 := ((j4 2 (by simp [haf]))).trans E2.out
            replace j4 := Lib.hid j4
            clear haf hfb
            rw [HLIT.out]
            go_simp
            exact hK.out _ _ (RS.next (wv := wv) (vs := vs) 4 (x := .int .i64 x) (by rw [HLIT.out]; simp only [upv, e2, Nat.reduceBEq, cond_true, cond_false]) (by rw [HG.out]; exact j4.out) hM.out (by rw [HG.out]; exact fun _ _ h => h) (by rw [HG.out]; exact E4.out.symm))
          · intro bf ac wv hfb haf hJ K' hK
            obtain ⟨vs, rfl, hM, j4⟩ := hJ
            replace hK := Lib.hid hK
            replace hM := Lib.hid hM
            rw [HG.out] at j4
            simp [Region.binds] at haf
            have e2 := ((j4 2 (by simp [haf]))).trans E2.out
            have e3 := ((j4 3 (by simp [haf]))).trans E3.out
            have e4 := ((j4 4 (by simp [haf]))).trans E4.out
            replace j4 := Lib.hid j4
            clear haf hfb
            rw [HLIT.out]
            go_simp
            go_at_call 20
            refine (can_q _ _ V1 x true HS1.out _ (H115.out.1.step hM.out) HL1.out).mono ?_
            rintro e w4 ⟨rfl, b4⟩
            exact hK.out _ _ (RS.next (wv := wv) (vs := vs) 5 (x := .bool true) (by rw [HLIT.out]; simp only [upv, e2, e3, e4, Nat.reduceBEq, cond_true, cond_false]) (by rw [HG.out]; exact j4.out) (keep2 b4 hM.out) (by rw [HG.out]; exact fun _ _ h => h) (by rw [HG.out]; exact E5.out.symm))
          · intro bf ac wv hfb haf hJ K' hK
            obtain ⟨vs, rfl, hM, j4⟩ := hJ
            replace hK := Lib.hid hK
            replace hM := Lib.hid hM
            rw [HG.out] at j4
            simp [Region.binds] at haf
            have e2 := ((j4 2 (by simp [haf]))).trans E2.out
            replace j4 := Lib.hid j4
            clear haf hfb
            rw [HLIT.out]
            go_simp
            exact hK.out _ _ (RS.next (wv := wv) (vs := vs) 6 (x := .int .i64 x) (by rw [HLIT.out]; simp only [upv, e2, Nat.reduceBEq, cond_true, cond_false]) (by rw [HG.out]; exact j4.out) hM.out (by rw [HG.out]; exact fun _ _ h => h) (by rw [HG.out]; exact E6.out.symm))
          · intro bf ac wv hfb haf hJ K' hK
            obtain ⟨vs, rfl, hM, j4⟩ := hJ
            replace hK := Lib.hid hK
            replace hM := Lib.hid hM
            rw [HG.out] at j4
            simp [Region.binds] at haf
            have e2 := ((j4 2 (by simp [haf]))).trans E2.out
            replace j4 := Lib.hid j4
            clear haf hfb
            rw [HLIT.out]
            go_simp
            exact hK.out _ _ (RS.next (wv := wv) (vs := vs) 7 (x := .pointer (some ⟨(w.heap.size + 1), 3, none⟩)) (by rw [HLIT.out]; simp only [upv, e2, Nat.reduceBEq, cond_true, cond_false]) (by rw [HG.out]; exact j4.out) hM.out (by rw [HG.out]; exact fun _ _ h => h) (by rw [HG.out]; exact E7.out.symm))
          · intro bf ac wv hfb haf hJ K' hK
            obtain ⟨vs, rfl, hM, j4⟩ := hJ
            replace hK := Lib.hid hK
            replace hM := Lib.hid hM
            rw [HG.out] at j4
            simp [Region.binds] at haf
            have e2 := ((j4 2 (by simp [haf]))).trans E2.out
            have e7 := ((j4 7 (by simp [haf]))).trans E7.out
            replace j4 := Lib.hid j4
            clear haf hfb
            have yo : wv.cell? ⟨(w.heap.size + 1), 3, none⟩ = some (.int .i64 x) := by rw [HDD.out]; exact (H114.out.step hM.out).c 3 rfl
            have yoz := (H114.out.step hM.out).2.2
            rw [HLIT.out]
            go_simp
            exact hK.out _ _ (RS.next (wv := wv) (vs := vs) 8 (x := .int .i64 x) (by rw [HLIT.out]; simp only [upv, e2, e7, Nat.reduceBEq, cond_true, cond_false]) (by rw [HG.out]; exact j4.out) hM.out (by rw [HG.out]; exact fun _ _ h => h) (by rw [HG.out]; exact E8.out.symm))
          · intro bf ac wv hfb haf hJ K' hK
            obtain ⟨vs, rfl, hM, j4⟩ := hJ
            replace hK := Lib.hid hK
            replace hM := Lib.hid hM
            rw [HG.out] at j4
            simp [Region.binds] at haf
            have e2 := ((j4 2 (by simp [haf]))).trans E2.out
            have e6 := ((j4 6 (by simp [haf]))).trans E6.out
            have e8 := ((j4 8 (by simp [haf]))).trans E8.out
            replace j4 := Lib.hid j4
            clear haf hfb
            rw [HLIT.out]
            go_simp
            exact hK.out _ _ (RS.next (wv := wv) (vs := vs) 9 (x := .bool true) (by rw [HLIT.out]; simp only [upv, e2, e6, e8, Nat.reduceBEq, cond_true, cond_false]) (by rw [HG.out]; exact j4.out) hM.out (by rw [HG.out]; exact fun _ _ h => h) (by rw [HG.out]; exact E9.out.symm))
          · intro bf ac wv hfb haf hJ K' hK
            obtain ⟨vs, rfl, hM, j4⟩ := hJ
            replace hK := Lib.hid hK
            replace hM := Lib.hid hM
            rw [HG.out] at j4
            simp [Region.binds] at haf
            have e2 := ((j4 2 (by simp [haf]))).trans E2.out
            have e9 := ((j4 9 (by simp [haf]))).trans E9.out
            replace j4 := Lib.hid j4
            clear haf hfb
            rw [HLIT.out]
            go_simp
            exact hK.out _ _ (RS.next (wv := wv) (vs := vs) 10 (x := .bool true) (by rw [HLIT.out]; simp only [upv, e2, e9, Nat.reduceBEq, cond_true, cond_false]) (by rw [HG.out]; exact j4.out) hM.out (by rw [HG.out]; exact fun _ _ h => h) (by rw [HG.out]; exact E10.out.symm))
          · intro bf ac wv hfb haf hJ K' hK
            obtain ⟨vs, rfl, hM, j4⟩ := hJ
            replace hK := Lib.hid hK
            replace hM := Lib.hid hM
            rw [HG.out] at j4
            simp [Region.binds] at haf
            have e10 := ((j4 10 (by simp [haf]))).trans E10.out
            replace j4 := Lib.hid j4
            clear haf hfb
            rw [HLIT.out]
            go_simp
            exact hK.out _ _ (RS.next (wv := wv) (vs := vs) 11 (x := undef) (by rw [HLIT.out]; simp only [upv, e10, Nat.reduceBEq, cond_true, cond_false]) (by rw [HG.out]; exact j4.out) hM.out (by rw [HG.out]; exact fun _ _ h => h) (by rw [HG.out]; exact E11.out.symm))
          · intro bf ac wv hfb haf hJ K' hK
            obtain ⟨vs, rfl, hM, j4⟩ := hJ
            replace hK := Lib.hid hK
            replace hM := Lib.hid hM
            rw [HG.out] at j4
            simp [Region.binds] at haf
            have e10 := ((j4 10 (by simp [haf]))).trans E10.out
            replace j4 := Lib.hid j4
            clear haf hfb
            rw [HLIT.out]
            go_simp
            exact hK.out _ _ (RS.next (wv := wv) (vs := vs) 12 (x := undef) (by rw [HLIT.out]; simp only [upv, e10, Nat.reduceBEq, cond_true, cond_false]) (by rw [HG.out]; exact j4.out) hM.out (by rw [HG.out]; exact fun _ _ h => h) (by rw [HG.out]; exact E12.out.symm))
          · intro bf ac wv hfb haf hJ K' hK
            obtain ⟨vs, rfl, hM, j4⟩ := hJ
            replace hK := Lib.hid hK
            replace hM := Lib.hid hM
            rw [HG.out] at j4
            simp [Region.binds] at haf
            have e10 := ((j4 10 (by simp [haf]))).trans E10.out
            replace j4 := Lib.hid j4
            clear haf hfb
            rw [HLIT.out]
            go_simp
            exact hK.out _ _ (RS.next (wv := wv) (vs := vs) 13 (x := undef) (by rw [HLIT.out]; simp only [upv, e10, Nat.reduceBEq, cond_true, cond_false]) (by rw [HG.out]; exact j4.out) hM.out (by rw [HG.out]; exact fun _ _ h => h) (by rw [HG.out]; exact E13.out.symm))
          · intro bf ac wv hfb haf hJ K' hK
            obtain ⟨vs, rfl, hM, j4⟩ := hJ
            replace hK := Lib.hid hK
            replace hM := Lib.hid hM
            rw [HG.out] at j4
            simp [Region.binds] at haf
            have e2 := ((j4 2 (by simp [haf]))).trans E2.out
            have e10 := ((j4 10 (by simp [haf]))).trans E10.out
            have e13 := ((j4 13 (by simp [haf]))).trans E13.out
            replace j4 := Lib.hid j4
            clear haf hfb
            rw [HLIT.out]
            go_simp
            exact hK.out _ _ (RS.next (wv := wv) (vs := vs) 14 (x := .bool true) (by rw [HLIT.out]; simp only [upv, e2, e10, e13, Nat.reduceBEq, cond_true, cond_false]) (by rw [HG.out]; exact j4.out) hM.out (by rw [HG.out]; exact fun _ _ h => h) (by rw [HG.out]; exact E14.out.symm))
          · intro bf ac wv hfb haf hJ K' hK
            obtain ⟨vs, rfl, hM, j4⟩ := hJ
            replace hK := Lib.hid hK
            replace hM := Lib.hid hM
            rw [HG.out] at j4
            simp [Region.binds] at haf
            have e2 := ((j4 2 (by simp [haf]))).trans E2.out
            have e5 := ((j4 5 (by simp [haf]))).trans E5.out
            have e14 := ((j4 14 (by simp [haf]))).trans E14.out
            replace j4 := Lib.hid j4
            clear haf hfb
            rw [HLIT.out]
            go_simp
            exact hK.out _ _ (RS.next (wv := wv) (vs := vs) 15 (x := .bool false) (by rw [HLIT.out]; simp only [upv, e2, e5, e14, Nat.reduceBEq, cond_true, cond_false]) (by rw [HG.out]; exact j4.out) hM.out (by rw [HG.out]; exact fun _ _ h => h) (by rw [HG.out]; exact E15.out.symm))
          · intro bf ac wv hfb haf hJ K' hK
            obtain ⟨vs, rfl, hM, j4⟩ := hJ
            replace hK := Lib.hid hK
            replace hM := Lib.hid hM
            rw [HG.out] at j4
            simp [Region.binds] at haf
            have e2 := ((j4 2 (by simp [haf]))).trans E2.out
            have e15 := ((j4 15 (by simp [haf]))).trans E15.out
            replace j4 := Lib.hid j4
            clear haf hfb
            rw [HLIT.out]
            go_simp
            exact hK.out _ _ (RS.next (wv := wv) (vs := vs) 16 (x := .bool false) (by rw [HLIT.out]; simp only [upv, e2, e15, Nat.reduceBEq, cond_true, cond_false]) (by rw [HG.out]; exact j4.out) hM.out (by rw [HG.out]; exact fun _ _ h => h) (by rw [HG.out]; exact E16.out.symm))
        · intro bf ac wv hall hJ
          obtain ⟨vs, rfl, hM, j4⟩ := hJ
          rw [HG.out] at j4
          have hlast := ((j4 16 (hall 16 (by decide)))).trans E16.out
          clear j4 hall
          rw [HLIT.out]
          dsimp only
          rw [hlast]
          clear hlast
          go_wp2
          go_meet
          exact ⟨rfl, hM⟩
      obtain ⟨c, hc⟩ : ∃ c, V.contains x = c := ⟨_, rfl⟩
      have HS1 := Lib.hid (show V1.contains x = c by rw [HS.out, decide_eq_false hd, hc]; rfl)
      have HSB := Lib.hid hc
      obtain ⟨dd, hdd⟩ : ∃ z, z = o.d := ⟨_, rfl⟩
      rw [← hdd] at hd
      have HDD := Lib.hid hdd
      have e1 : decide (x = dd) = false := decide_eq_false hd
      have e2 : (x == dd) = false := beq_eq_false_iff_ne.2 hd
      clear hdd hc
      obtain ⟨lit, hlit⟩ : ∃ lit : (Nat → Value) → Act, lit = fun vs => { tmps := List.toArray (Value.agg #[Value.slice va V.length vc, Value.slice sa L.length sc] :: Value.agg #[Value.int IntKind.i64 o.a, Value.int IntKind.i64 o.b, Value.int IntKind.i64 o.c, Value.int IntKind.i64 o.d] :: Value.int IntKind.i64 q :: Value.int IntKind.i64 v :: Value.int IntKind.i64 t :: Value.pointer (some { block := w.heap.size, off := 0 }) :: Value.pointer (some { block := w.heap.size + 1, off := 0 }) :: undef :: undef :: undef :: u10 :: Value.bool true :: Value.pointer (some { block := u3.heap.size, off := 0 }) :: Value.int IntKind.i64 Ea :: Value.pointer (some { block := u4.heap.size, off := 0 }) :: Value.int IntKind.i64 Eb :: Value.pointer (some { block := u5.heap.size, off := 0 }) :: Value.int IntKind.i64 Ec :: Value.int IntKind.i64 x :: undef :: Value.bool true :: Value.agg #[Value.slice va V.length vc, Value.slice sa L.length sc] :: Value.bool true :: Value.bool false :: undef :: Value.tuple #[Value.agg #[Value.slice ua1 V1.length uc1, Value.slice fa1 M1.length fc1], Value.int IntKind.i64 Ea] :: Value.agg #[Value.slice va V.length vc, Value.slice sa L.length sc] :: Value.agg #[Value.int IntKind.i64 o.a, Value.int IntKind.i64 o.b, Value.int IntKind.i64 o.c, Value.int IntKind.i64 o.d] :: Value.tuple #[Value.agg #[Value.slice ua1 V1.length uc1, Value.slice fa1 M1.length fc1], Value.int IntKind.i64 Ea] :: Value.agg #[Value.slice ua1 V1.length uc1, Value.slice fa1 M1.length fc1] :: Value.int IntKind.i64 Ea :: Value.tuple #[Value.agg #[Value.slice ua2 V2.length uc2, Value.slice fa2 M2.length fc2], Value.int IntKind.i64 Eb] :: Value.agg #[Value.slice va V.length vc, Value.slice sa L.length sc] :: Value.int IntKind.i64 q :: Value.tuple #[Value.agg #[Value.slice ua2 V2.length uc2, Value.slice fa2 M2.length fc2], Value.int IntKind.i64 Eb] :: Value.agg #[Value.slice ua2 V2.length uc2, Value.slice fa2 M2.length fc2] :: Value.int IntKind.i64 Eb :: Value.tuple #[Value.agg #[Value.slice ua3 V3.length uc3, Value.slice fa3 M3.length fc3], Value.int IntKind.i64 Ec] :: Value.agg #[Value.slice va V.length vc, Value.slice sa L.length sc] :: Value.int IntKind.i64 v :: Value.int IntKind.i64 t :: Value.tuple #[Value.agg #[Value.slice ua3 V3.length uc3, Value.slice fa3 M3.length fc3], Value.int IntKind.i64 Ec] :: Value.agg #[Value.slice ua3 V3.length uc3, Value.slice fa3 M3.length fc3] :: Value.int IntKind.i64 Ec :: Value.int IntKind.i64 x :: Value.bool true :: u46 :: u47 :: vs 0 :: vs 1 :: vs 2 :: vs 3 :: vs 4 :: vs 5 :: vs 6 :: vs 7 :: vs 8 :: vs 9 :: vs 10 :: vs 11 :: vs 12 :: vs 13 :: vs 14 :: vs 15 :: vs 16 :: u65 :: u66 :: u67 :: u68 :: u69 :: u70 :: u71 :: u72 :: u73 :: u74 :: u75 :: u76 :: u77 :: u78 :: u79 :: u80 :: u81 :: u82 :: u83 :: u84 :: u85 :: u86 :: u87 :: u88 :: u89 :: u90 :: u91 :: u92 :: undef :: undef :: undef :: undef :: undef :: undef :: undef :: undef :: undef :: undef :: undef :: undef :: undef :: undef :: undef :: undef :: undef :: undef :: undef :: undef :: undef :: undef :: undef :: undef :: undef :: undef :: undef :: undef :: undef :: undef :: undef :: undef :: undef :: undef :: undef :: []), defers := [] } := ⟨_, rfl⟩
      have HLIT := Lib.hid hlit
      clear hlit
      obtain ⟨val, hval⟩ : ∃ val : List Value, val = [.int .i64 Ea, .bool true, .bool true, .agg #[.slice ua1 V1.length uc1, .slice fa1 M1.length fc1], .int .i64 x, .bool c, .int .i64 x, .pointer (some ⟨(w.heap.size + 1), 3, none⟩), .int .i64 dd, .bool false, .bool false, .agg #[.slice va V.length vc, .slice sa L.length sc], .int .i64 x, .bool c, .bool c, .bool false, .bool false] := ⟨_, rfl⟩
      have E0 := Lib.hid (show val.getD 0 undef = .int .i64 Ea by rw [hval]; rfl)
      have E1 := Lib.hid (show val.getD 1 undef = .bool true by rw [hval]; rfl)
      have E2 := Lib.hid (show val.getD 2 undef = .bool true by rw [hval]; rfl)
      have E3 := Lib.hid (show val.getD 3 undef = .agg #[.slice ua1 V1.length uc1, .slice fa1 M1.length fc1] by rw [hval]; rfl)
      have E4 := Lib.hid (show val.getD 4 undef = .int .i64 x by rw [hval]; rfl)
      have E5 := Lib.hid (show val.getD 5 undef = .bool c by rw [hval]; rfl)
      have E6 := Lib.hid (show val.getD 6 undef = .int .i64 x by rw [hval]; rfl)
      have E7 := Lib.hid (show val.getD 7 undef = .pointer (some ⟨(w.heap.size + 1), 3, none⟩) by rw [hval]; rfl)
      have E8 := Lib.hid (show val.getD 8 undef = .int .i64 dd by rw [hval]; rfl)
      have E9 := Lib.hid (show val.getD 9 undef = .bool false by rw [hval]; rfl)
      have E10 := Lib.hid (show val.getD 10 undef = .bool false by rw [hval]; rfl)
      have E11 := Lib.hid (show val.getD 11 undef = .agg #[.slice va V.length vc, .slice sa L.length sc] by rw [hval]; rfl)
      have E12 := Lib.hid (show val.getD 12 undef = .int .i64 x by rw [hval]; rfl)
      have E13 := Lib.hid (show val.getD 13 undef = .bool c by rw [hval]; rfl)
      have E14 := Lib.hid (show val.getD 14 undef = .bool c by rw [hval]; rfl)
      have E15 := Lib.hid (show val.getD 15 undef = .bool false by rw [hval]; rfl)
      have E16 := Lib.hid (show val.getD 16 undef = .bool false by rw [hval]; rfl)
      clear hval
      obtain ⟨G, hG0⟩ : ∃ G : Nat → Value → World → Prop, G = (fun i v w => (v = val.getD i undef)) := ⟨_, rfl⟩
      have HG := Lib.hid hG0
      clear hG0
      refine region_inv (RS lit wr G) (by kernel_rfl) (by decide +kernel) ?_ ?_ ?_
      · exact ⟨fun i => ([u48, u49, u50, u51, u52, u53, u54, u55, u56, u57, u58, u59, u60, u61, u62, u63, u64] : List Value).getD i undef, (by rw [HLIT.out]; rfl), below_drew _ _, fun i h => by cases h⟩
      · refine ⟨?_, ?_, ?_, ?_, ?_, ?_, ?_, ?_, ?_, ?_, ?_, ?_, ?_, ?_, ?_, ?_, ?_, trivial⟩
        · intro bf ac wv hfb haf hJ K' hK
          obtain ⟨vs, rfl, hM, j4⟩ := hJ
          replace hK := Lib.hid hK
          replace hM := Lib.hid hM
          rw [HG.out] at j4
          replace j4 := Lib.hid j4
          clear haf hfb
          rw [HLIT.out]
          go_simp
          exact hK.out _ _ (RS.next (wv := wv) (vs := vs) 0 (x := .int .i64 Ea) (by rw [HLIT.out]; rfl) (by rw [HG.out]; exact j4.out) hM.out (by rw [HG.out]; exact fun _ _ h => h) (by rw [HG.out]; exact E0.out.symm))
        · intro bf ac wv hfb haf hJ K' hK
          obtain ⟨vs, rfl, hM, j4⟩ := hJ
          replace hK := Lib.hid hK
          replace hM := Lib.hid hM
          rw [HG.out] at j4
          simp [Region.binds] at haf
          have e0 := ((j4 0 (by simp [haf]))).trans E0.out
          replace j4 := Lib.hid j4
          clear haf hfb
          rw [HLIT.out]
          go_simp
          exact hK.out _ _ (RS.next (wv := wv) (vs := vs) 1 (x := .bool true) (by rw [HLIT.out]; simp only [upv, e0, Nat.reduceBEq, cond_true, cond_false]) (by rw [HG.out]; exact j4.out) hM.out (by rw [HG.out]; exact fun _ _ h => h) (by rw [HG.out]; exact E1.out.symm))
        · intro bf ac wv hfb haf hJ K' hK
          obtain ⟨vs, rfl, hM, j4⟩ := hJ
          replace hK := Lib.hid hK
          replace hM := Lib.hid hM
          rw [HG.out] at j4
          simp [Region.binds] at haf
          have e1 := ((j4 1 (by simp [haf]))).trans E1.out
          replace j4 := Lib.hid j4
          clear haf hfb
          rw [HLIT.out]
          go_simp
          exact hK.out _ _ (RS.next (wv := wv) (vs := vs) 2 (x := .bool true) (by rw [HLIT.out]; simp only [upv, e1, Nat.reduceBEq, cond_true, cond_false]) (by rw [HG.out]; exact j4.out) hM.out (by rw [HG.out]; exact fun _ _ h => h) (by rw [HG.out]; exact E2.out.symm))
        · intro bf ac wv hfb haf hJ K' hK
          obtain ⟨vs, rfl, hM, j4⟩ := hJ
          replace hK := Lib.hid hK
          replace hM := Lib.hid hM
          rw [HG.out] at j4
          simp [Region.binds] at haf
          have e2 := ((j4 2 (by simp [haf]))).trans E2.out
          replace j4 := Lib.hid j4
          clear haf hfb
          have xx := H116.out.step hM.out
          have xx0 := xx.c 0 rfl
          have xx1 := xx.c 1 rfl
          have xxz := xx.2.2
          clear xx
          rw [HLIT.out]
          go_simp
          exact hK.out _ _ (RS.next (wv := wv) (vs := vs) 3 (x := .agg #[.slice ua1 V1.length uc1, .slice fa1 M1.length fc1]) (by rw [HLIT.out]; simp only [upv, e2, Nat.reduceBEq, cond_true, cond_false]) (by rw [HG.out]; exact j4.out) hM.out (by rw [HG.out]; exact fun _ _ h => h) (by rw [HG.out]; exact E3.out.symm))
        · intro bf ac wv hfb haf hJ K' hK
          obtain ⟨vs, rfl, hM, j4⟩ := hJ
          replace hK := Lib.hid hK
          replace hM := Lib.hid hM
          rw [HG.out] at j4
          simp [Region.binds] at haf
          have e2 := ((j4 2 (by simp [haf]))).trans E2.out
          replace j4 := Lib.hid j4
          clear haf hfb
          rw [HLIT.out]
          go_simp
          exact hK.out _ _ (RS.next (wv := wv) (vs := vs) 4 (x := .int .i64 x) (by rw [HLIT.out]; simp only [upv, e2, Nat.reduceBEq, cond_true, cond_false]) (by rw [HG.out]; exact j4.out) hM.out (by rw [HG.out]; exact fun _ _ h => h) (by rw [HG.out]; exact E4.out.symm))
        · intro bf ac wv hfb haf hJ K' hK
          obtain ⟨vs, rfl, hM, j4⟩ := hJ
          replace hK := Lib.hid hK
          replace hM := Lib.hid hM
          rw [HG.out] at j4
          simp [Region.binds] at haf
          have e2 := ((j4 2 (by simp [haf]))).trans E2.out
          have e3 := ((j4 3 (by simp [haf]))).trans E3.out
          have e4 := ((j4 4 (by simp [haf]))).trans E4.out
          replace j4 := Lib.hid j4
          clear haf hfb
          rw [HLIT.out]
          go_simp
          go_at_call 20
          refine (can_q _ _ V1 x c HS1.out _ (H115.out.1.step hM.out) HL1.out).mono ?_
          rintro e w4 ⟨rfl, b4⟩
          exact hK.out _ _ (RS.next (wv := wv) (vs := vs) 5 (x := .bool c) (by rw [HLIT.out]; simp only [upv, e2, e3, e4, Nat.reduceBEq, cond_true, cond_false]) (by rw [HG.out]; exact j4.out) (keep2 b4 hM.out) (by rw [HG.out]; exact fun _ _ h => h) (by rw [HG.out]; exact E5.out.symm))
        · intro bf ac wv hfb haf hJ K' hK
          obtain ⟨vs, rfl, hM, j4⟩ := hJ
          replace hK := Lib.hid hK
          replace hM := Lib.hid hM
          rw [HG.out] at j4
          simp [Region.binds] at haf
          have e2 := ((j4 2 (by simp [haf]))).trans E2.out
          replace j4 := Lib.hid j4
          clear haf hfb
          rw [HLIT.out]
          go_simp
          exact hK.out _ _ (RS.next (wv := wv) (vs := vs) 6 (x := .int .i64 x) (by rw [HLIT.out]; simp only [upv, e2, Nat.reduceBEq, cond_true, cond_false]) (by rw [HG.out]; exact j4.out) hM.out (by rw [HG.out]; exact fun _ _ h => h) (by rw [HG.out]; exact E6.out.symm))
        · intro bf ac wv hfb haf hJ K' hK
          obtain ⟨vs, rfl, hM, j4⟩ := hJ
          replace hK := Lib.hid hK
          replace hM := Lib.hid hM
          rw [HG.out] at j4
          simp [Region.binds] at haf
          have e2 := ((j4 2 (by simp [haf]))).trans E2.out
          replace j4 := Lib.hid j4
          clear haf hfb
          rw [HLIT.out]
          go_simp
          exact hK.out _ _ (RS.next (wv := wv) (vs := vs) 7 (x := .pointer (some ⟨(w.heap.size + 1), 3, none⟩)) (by rw [HLIT.out]; simp only [upv, e2, Nat.reduceBEq, cond_true, cond_false]) (by rw [HG.out]; exact j4.out) hM.out (by rw [HG.out]; exact fun _ _ h => h) (by rw [HG.out]; exact E7.out.symm))
        · intro bf ac wv hfb haf hJ K' hK
          obtain ⟨vs, rfl, hM, j4⟩ := hJ
          replace hK := Lib.hid hK
          replace hM := Lib.hid hM
          rw [HG.out] at j4
          simp [Region.binds] at haf
          have e2 := ((j4 2 (by simp [haf]))).trans E2.out
          have e7 := ((j4 7 (by simp [haf]))).trans E7.out
          replace j4 := Lib.hid j4
          clear haf hfb
          have yo : wv.cell? ⟨(w.heap.size + 1), 3, none⟩ = some (.int .i64 dd) := by rw [HDD.out]; exact (H114.out.step hM.out).c 3 rfl
          have yoz := (H114.out.step hM.out).2.2
          rw [HLIT.out]
          go_simp
          exact hK.out _ _ (RS.next (wv := wv) (vs := vs) 8 (x := .int .i64 dd) (by rw [HLIT.out]; simp only [upv, e2, e7, Nat.reduceBEq, cond_true, cond_false]) (by rw [HG.out]; exact j4.out) hM.out (by rw [HG.out]; exact fun _ _ h => h) (by rw [HG.out]; exact E8.out.symm))
        · intro bf ac wv hfb haf hJ K' hK
          obtain ⟨vs, rfl, hM, j4⟩ := hJ
          replace hK := Lib.hid hK
          replace hM := Lib.hid hM
          rw [HG.out] at j4
          simp [Region.binds] at haf
          have e2 := ((j4 2 (by simp [haf]))).trans E2.out
          have e6 := ((j4 6 (by simp [haf]))).trans E6.out
          have e8 := ((j4 8 (by simp [haf]))).trans E8.out
          replace j4 := Lib.hid j4
          clear haf hfb
          rw [HLIT.out]
          go_simp
          exact hK.out _ _ (RS.next (wv := wv) (vs := vs) 9 (x := .bool false) (by rw [HLIT.out]; simp only [upv, e2, e6, e8, Nat.reduceBEq, cond_true, cond_false]) (by rw [HG.out]; exact j4.out) hM.out (by rw [HG.out]; exact fun _ _ h => h) (by rw [HG.out]; exact E9.out.symm))
        · intro bf ac wv hfb haf hJ K' hK
          obtain ⟨vs, rfl, hM, j4⟩ := hJ
          replace hK := Lib.hid hK
          replace hM := Lib.hid hM
          rw [HG.out] at j4
          simp [Region.binds] at haf
          have e2 := ((j4 2 (by simp [haf]))).trans E2.out
          have e9 := ((j4 9 (by simp [haf]))).trans E9.out
          replace j4 := Lib.hid j4
          clear haf hfb
          rw [HLIT.out]
          go_simp
          exact hK.out _ _ (RS.next (wv := wv) (vs := vs) 10 (x := .bool false) (by rw [HLIT.out]; simp only [upv, e2, e9, Nat.reduceBEq, cond_true, cond_false]) (by rw [HG.out]; exact j4.out) hM.out (by rw [HG.out]; exact fun _ _ h => h) (by rw [HG.out]; exact E10.out.symm))
        · intro bf ac wv hfb haf hJ K' hK
          obtain ⟨vs, rfl, hM, j4⟩ := hJ
          replace hK := Lib.hid hK
          replace hM := Lib.hid hM
          rw [HG.out] at j4
          simp [Region.binds] at haf
          have e10 := ((j4 10 (by simp [haf]))).trans E10.out
          replace j4 := Lib.hid j4
          clear haf hfb
          have xx := H113.out.step hM.out
          have xx0 := xx.c 0 rfl
          have xx1 := xx.c 1 rfl
          have xxz := xx.2.2
          clear xx
          rw [HLIT.out]
          go_simp
          exact hK.out _ _ (RS.next (wv := wv) (vs := vs) 11 (x := .agg #[.slice va V.length vc, .slice sa L.length sc]) (by rw [HLIT.out]; simp only [upv, e10, Nat.reduceBEq, cond_true, cond_false]) (by rw [HG.out]; exact j4.out) hM.out (by rw [HG.out]; exact fun _ _ h => h) (by rw [HG.out]; exact E11.out.symm))
        · intro bf ac wv hfb haf hJ K' hK
          obtain ⟨vs, rfl, hM, j4⟩ := hJ
          replace hK := Lib.hid hK
          replace hM := Lib.hid hM
          rw [HG.out] at j4
          simp [Region.binds] at haf
          have e10 := ((j4 10 (by simp [haf]))).trans E10.out
          replace j4 := Lib.hid j4
          clear haf hfb
          rw [HLIT.out]
          go_simp
          exact hK.out _ _ (RS.next (wv := wv) (vs := vs) 12 (x := .int .i64 x) (by rw [HLIT.out]; simp only [upv, e10, Nat.reduceBEq, cond_true, cond_false]) (by rw [HG.out]; exact j4.out) hM.out (by rw [HG.out]; exact fun _ _ h => h) (by rw [HG.out]; exact E12.out.symm))
        · intro bf ac wv hfb haf hJ K' hK
          obtain ⟨vs, rfl, hM, j4⟩ := hJ
          replace hK := Lib.hid hK
          replace hM := Lib.hid hM
          rw [HG.out] at j4
          simp [Region.binds] at haf
          have e10 := ((j4 10 (by simp [haf]))).trans E10.out
          have e11 := ((j4 11 (by simp [haf]))).trans E11.out
          have e12 := ((j4 12 (by simp [haf]))).trans E12.out
          replace j4 := Lib.hid j4
          clear haf hfb
          rw [HLIT.out]
          go_simp
          go_at_call 20
          refine (can_q _ _ V x c HSB.out _ (H112.out.1.step hM.out) HSV.out).mono ?_
          rintro e w4 ⟨rfl, b4⟩
          exact hK.out _ _ (RS.next (wv := wv) (vs := vs) 13 (x := .bool c) (by rw [HLIT.out]; simp only [upv, e10, e11, e12, Nat.reduceBEq, cond_true, cond_false]) (by rw [HG.out]; exact j4.out) (keep2 b4 hM.out) (by rw [HG.out]; exact fun _ _ h => h) (by rw [HG.out]; exact E13.out.symm))
        · intro bf ac wv hfb haf hJ K' hK
          obtain ⟨vs, rfl, hM, j4⟩ := hJ
          replace hK := Lib.hid hK
          replace hM := Lib.hid hM
          rw [HG.out] at j4
          simp [Region.binds] at haf
          have e2 := ((j4 2 (by simp [haf]))).trans E2.out
          have e10 := ((j4 10 (by simp [haf]))).trans E10.out
          have e13 := ((j4 13 (by simp [haf]))).trans E13.out
          replace j4 := Lib.hid j4
          clear haf hfb
          rw [HLIT.out]
          go_simp
          exact hK.out _ _ (RS.next (wv := wv) (vs := vs) 14 (x := .bool c) (by rw [HLIT.out]; simp only [upv, e2, e10, e13, Nat.reduceBEq, cond_true, cond_false]) (by rw [HG.out]; exact j4.out) hM.out (by rw [HG.out]; exact fun _ _ h => h) (by rw [HG.out]; exact E14.out.symm))
        · intro bf ac wv hfb haf hJ K' hK
          obtain ⟨vs, rfl, hM, j4⟩ := hJ
          replace hK := Lib.hid hK
          replace hM := Lib.hid hM
          rw [HG.out] at j4
          simp [Region.binds] at haf
          have e2 := ((j4 2 (by simp [haf]))).trans E2.out
          have e5 := ((j4 5 (by simp [haf]))).trans E5.out
          have e14 := ((j4 14 (by simp [haf]))).trans E14.out
          replace j4 := Lib.hid j4
          clear haf hfb
          rw [HLIT.out]
          go_simp
          exact hK.out _ _ (RS.next (wv := wv) (vs := vs) 15 (x := .bool false) (by rw [HLIT.out]; simp only [upv, e2, e5, e14, Nat.reduceBEq, cond_true, cond_false]) (by rw [HG.out]; exact j4.out) hM.out (by rw [HG.out]; exact fun _ _ h => h) (by rw [HG.out]; exact E15.out.symm))
        · intro bf ac wv hfb haf hJ K' hK
          obtain ⟨vs, rfl, hM, j4⟩ := hJ
          replace hK := Lib.hid hK
          replace hM := Lib.hid hM
          rw [HG.out] at j4
          simp [Region.binds] at haf
          have e2 := ((j4 2 (by simp [haf]))).trans E2.out
          have e15 := ((j4 15 (by simp [haf]))).trans E15.out
          replace j4 := Lib.hid j4
          clear haf hfb
          rw [HLIT.out]
          go_simp
          exact hK.out _ _ (RS.next (wv := wv) (vs := vs) 16 (x := .bool false) (by rw [HLIT.out]; simp only [upv, e2, e15, Nat.reduceBEq, cond_true, cond_false]) (by rw [HG.out]; exact j4.out) hM.out (by rw [HG.out]; exact fun _ _ h => h) (by rw [HG.out]; exact E16.out.symm))
      · intro bf ac wv hall hJ
        obtain ⟨vs, rfl, hM, j4⟩ := hJ
        rw [HG.out] at j4
        have hlast := ((j4 16 (hall 16 (by decide)))).trans E16.out
        clear j4 hall
        rw [HLIT.out]
        dsimp only
        rw [hlast]
        clear hlast
        go_wp2
        go_meet
        exact ⟨rfl, hM⟩
    case rest =>
      obtain ⟨rfl, b9⟩ := hcut
      have H122 := Lib.hid (H112.out.step b9)
      clear H112
      have H123 := Lib.hid (H113.out.step b9)
      clear H113
      have H124 := Lib.hid (H114.out.step b9)
      clear H114
      have H125 := Lib.hid (H115.out.step b9)
      clear H115
      have H126 := Lib.hid (H116.out.step b9)
      clear H116
      have H127 := Lib.hid (H117.out.step b9)
      clear H117
      have H128 := Lib.hid (H118.out.step b9)
      clear H118
      have H129 := Lib.hid (H119.out.step b9)
      clear H119
      have H130 := Lib.hid (H120.out.step b9)
      clear H120
      have H131 := Lib.hid (keep2 b9 H121.out)
      clear H121
      clear b9
      obtain ⟨c, hc⟩ : ∃ c, V.contains x = c := ⟨_, rfl⟩
      have HSB := Lib.hid hc
      clear hc
      by_cases hz2 : Eb = 0
      rotate_left
      · skip
        have g2 : (Eb == 0) = false := by simpa using hz2
        have g2b : decide (Eb = 0) = false := decide_eq_false hz2
        clear hz2
        by_cases hz3 : Ec = 0
        rotate_left
        · skip
          have g3 : (Ec == 0) = false := by simpa using hz3
          have g3b : decide (Ec = 0) = false := decide_eq_false hz3
          clear hz3
          go_wp2
          go_roundw
          case rel => exact ⟨x + 1, (rg17 HX.out HLT.out).1, (rg17 HX.out HLT.out).2, rfl, H131⟩
          case measure => exact meas17 HLT.out
        have g3 : (Ec == 0) = true := by rw [hz3]; rfl
        have g3b : decide (Ec = 0) = true := decide_eq_true hz3
        have HZ3 := Lib.hid hz3
        clear hz3
        cases c3 : V3.contains x
        · skip
          have x30 : wc.cell? ⟨(u5.heap.size), 0, none⟩ = some (.slice ua3 V3.length uc3) := H130.out.c 0 rfl
          have x31 : wc.cell? ⟨(u5.heap.size), 1, none⟩ = some (.slice fa3 M3.length fc3) := H130.out.c 1 rfl
          have z3 : (u5.heap.size) < wc.heap.size := H130.out.2.2
          go_wp2_with fail
          refine (can_q _ _ V3 x false c3 _ H129.out.1 HL3.out).mono ?_
          rintro e u26 ⟨rfl, b26⟩
          clear x30 x31 z3
          have H132 := Lib.hid (H122.out.step b26)
          clear H122
          have H133 := Lib.hid (H123.out.step b26)
          clear H123
          have H134 := Lib.hid (H124.out.step b26)
          clear H124
          have H135 := Lib.hid (H125.out.step b26)
          clear H125
          have H136 := Lib.hid (H126.out.step b26)
          clear H126
          have H137 := Lib.hid (H127.out.step b26)
          clear H127
          have H138 := Lib.hid (H128.out.step b26)
          clear H128
          have H139 := Lib.hid (H129.out.step b26)
          clear H129
          have H140 := Lib.hid (H130.out.step b26)
          clear H130
          have H141 := Lib.hid (keep2 b26 H131.out)
          clear H131
          clear b26
          go_wp2
          go_roundw
          case rel => exact ⟨x + 1, (rg17 HX.out HLT.out).1, (rg17 HX.out HLT.out).2, rfl, H141⟩
          case measure => exact meas17 HLT.out
        have HS3 := Lib.hid (show V.contains x = true from HOF.out.r HZ3.out x c3)
        have x30 : wc.cell? ⟨(u5.heap.size), 0, none⟩ = some (.slice ua3 V3.length uc3) := H130.out.c 0 rfl
        have x31 : wc.cell? ⟨(u5.heap.size), 1, none⟩ = some (.slice fa3 M3.length fc3) := H130.out.c 1 rfl
        have z3 : (u5.heap.size) < wc.heap.size := H130.out.2.2
        go_wp2_with fail
        refine (can_q _ _ V3 x true c3 _ H129.out.1 HL3.out).mono ?_
        rintro e u26 ⟨rfl, b26⟩
        clear x30 x31 z3
        have H132 := Lib.hid (H122.out.step b26)
        clear H122
        have H133 := Lib.hid (H123.out.step b26)
        clear H123
        have H134 := Lib.hid (H124.out.step b26)
        clear H124
        have H135 := Lib.hid (H125.out.step b26)
        clear H125
        have H136 := Lib.hid (H126.out.step b26)
        clear H126
        have H137 := Lib.hid (H127.out.step b26)
        clear H127
        have H138 := Lib.hid (H128.out.step b26)
        clear H128
        have H139 := Lib.hid (H129.out.step b26)
        clear H129
        have H140 := Lib.hid (H130.out.step b26)
        clear H130
        have H141 := Lib.hid (keep2 b26 H131.out)
        clear H131
        clear b26
        have xb0 : u26.cell? ⟨(w.heap.size), 0, none⟩ = some (.slice va V.length vc) := H133.out.c 0 rfl
        have xb1 : u26.cell? ⟨(w.heap.size), 1, none⟩ = some (.slice sa L.length sc) := H133.out.c 1 rfl
        have zb : (w.heap.size) < u26.heap.size := H133.out.2.2
        go_wp2_with fail
        refine (can_q _ _ V x true HS3.out _ H132.out.1 HSV.out).mono ?_
        rintro e u27 ⟨rfl, b27⟩
        clear xb0 xb1 zb
        have H142 := Lib.hid (H132.out.step b27)
        clear H132
        have H143 := Lib.hid (H133.out.step b27)
        clear H133
        have H144 := Lib.hid (H134.out.step b27)
        clear H134
        have H145 := Lib.hid (H135.out.step b27)
        clear H135
        have H146 := Lib.hid (H136.out.step b27)
        clear H136
        have H147 := Lib.hid (H137.out.step b27)
        clear H137
        have H148 := Lib.hid (H138.out.step b27)
        clear H138
        have H149 := Lib.hid (H139.out.step b27)
        clear H139
        have H150 := Lib.hid (H140.out.step b27)
        clear H140
        have H151 := Lib.hid (keep2 b27 H141.out)
        clear H141
        clear b27
        go_wp2
        go_roundw
        case rel => exact ⟨x + 1, (rg17 HX.out HLT.out).1, (rg17 HX.out HLT.out).2, rfl, H151⟩
        case measure => exact meas17 HLT.out
      have g2 : (Eb == 0) = true := by rw [hz2]; rfl
      have g2b : decide (Eb = 0) = true := decide_eq_true hz2
      have HZ2 := Lib.hid hz2
      clear hz2
      cases c2 : V2.contains x
      · skip
        have x20 : wc.cell? ⟨(u4.heap.size), 0, none⟩ = some (.slice ua2 V2.length uc2) := H128.out.c 0 rfl
        have x21 : wc.cell? ⟨(u4.heap.size), 1, none⟩ = some (.slice fa2 M2.length fc2) := H128.out.c 1 rfl
        have z2 : (u4.heap.size) < wc.heap.size := H128.out.2.2
        go_wp2_with fail
        refine (can_q _ _ V2 x false c2 _ H127.out.1 HL2.out).mono ?_
        rintro e u26 ⟨rfl, b26⟩
        clear x20 x21 z2
        have H132 := Lib.hid (H122.out.step b26)
        clear H122
        have H133 := Lib.hid (H123.out.step b26)
        clear H123
        have H134 := Lib.hid (H124.out.step b26)
        clear H124
        have H135 := Lib.hid (H125.out.step b26)
        clear H125
        have H136 := Lib.hid (H126.out.step b26)
        clear H126
        have H137 := Lib.hid (H127.out.step b26)
        clear H127
        have H138 := Lib.hid (H128.out.step b26)
        clear H128
        have H139 := Lib.hid (H129.out.step b26)
        clear H129
        have H140 := Lib.hid (H130.out.step b26)
        clear H130
        have H141 := Lib.hid (keep2 b26 H131.out)
        clear H131
        clear b26
        by_cases hz3 : Ec = 0
        rotate_left
        · skip
          have g3 : (Ec == 0) = false := by simpa using hz3
          have g3b : decide (Ec = 0) = false := decide_eq_false hz3
          clear hz3
          go_wp2
          go_roundw
          case rel => exact ⟨x + 1, (rg17 HX.out HLT.out).1, (rg17 HX.out HLT.out).2, rfl, H141⟩
          case measure => exact meas17 HLT.out
        have g3 : (Ec == 0) = true := by rw [hz3]; rfl
        have g3b : decide (Ec = 0) = true := decide_eq_true hz3
        have HZ3 := Lib.hid hz3
        clear hz3
        cases c3 : V3.contains x
        · skip
          have x30 : u26.cell? ⟨(u5.heap.size), 0, none⟩ = some (.slice ua3 V3.length uc3) := H140.out.c 0 rfl
          have x31 : u26.cell? ⟨(u5.heap.size), 1, none⟩ = some (.slice fa3 M3.length fc3) := H140.out.c 1 rfl
          have z3 : (u5.heap.size) < u26.heap.size := H140.out.2.2
          go_wp2_with fail
          refine (can_q _ _ V3 x false c3 _ H139.out.1 HL3.out).mono ?_
          rintro e u27 ⟨rfl, b27⟩
          clear x30 x31 z3
          have H142 := Lib.hid (H132.out.step b27)
          clear H132
          have H143 := Lib.hid (H133.out.step b27)
          clear H133
          have H144 := Lib.hid (H134.out.step b27)
          clear H134
          have H145 := Lib.hid (H135.out.step b27)
          clear H135
          have H146 := Lib.hid (H136.out.step b27)
          clear H136
          have H147 := Lib.hid (H137.out.step b27)
          clear H137
          have H148 := Lib.hid (H138.out.step b27)
          clear H138
          have H149 := Lib.hid (H139.out.step b27)
          clear H139
          have H150 := Lib.hid (H140.out.step b27)
          clear H140
          have H151 := Lib.hid (keep2 b27 H141.out)
          clear H141
          clear b27
          go_wp2
          go_roundw
          case rel => exact ⟨x + 1, (rg17 HX.out HLT.out).1, (rg17 HX.out HLT.out).2, rfl, H151⟩
          case measure => exact meas17 HLT.out
        have HS3 := Lib.hid (show V.contains x = true from HOF.out.r HZ3.out x c3)
        have x30 : u26.cell? ⟨(u5.heap.size), 0, none⟩ = some (.slice ua3 V3.length uc3) := H140.out.c 0 rfl
        have x31 : u26.cell? ⟨(u5.heap.size), 1, none⟩ = some (.slice fa3 M3.length fc3) := H140.out.c 1 rfl
        have z3 : (u5.heap.size) < u26.heap.size := H140.out.2.2
        go_wp2_with fail
        refine (can_q _ _ V3 x true c3 _ H139.out.1 HL3.out).mono ?_
        rintro e u27 ⟨rfl, b27⟩
        clear x30 x31 z3
        have H142 := Lib.hid (H132.out.step b27)
        clear H132
        have H143 := Lib.hid (H133.out.step b27)
        clear H133
        have H144 := Lib.hid (H134.out.step b27)
        clear H134
        have H145 := Lib.hid (H135.out.step b27)
        clear H135
        have H146 := Lib.hid (H136.out.step b27)
        clear H136
        have H147 := Lib.hid (H137.out.step b27)
        clear H137
        have H148 := Lib.hid (H138.out.step b27)
        clear H138
        have H149 := Lib.hid (H139.out.step b27)
        clear H139
        have H150 := Lib.hid (H140.out.step b27)
        clear H140
        have H151 := Lib.hid (keep2 b27 H141.out)
        clear H141
        clear b27
        have xb0 : u27.cell? ⟨(w.heap.size), 0, none⟩ = some (.slice va V.length vc) := H143.out.c 0 rfl
        have xb1 : u27.cell? ⟨(w.heap.size), 1, none⟩ = some (.slice sa L.length sc) := H143.out.c 1 rfl
        have zb : (w.heap.size) < u27.heap.size := H143.out.2.2
        go_wp2_with fail
        refine (can_q _ _ V x true HS3.out _ H142.out.1 HSV.out).mono ?_
        rintro e u28 ⟨rfl, b28⟩
        clear xb0 xb1 zb
        have H152 := Lib.hid (H142.out.step b28)
        clear H142
        have H153 := Lib.hid (H143.out.step b28)
        clear H143
        have H154 := Lib.hid (H144.out.step b28)
        clear H144
        have H155 := Lib.hid (H145.out.step b28)
        clear H145
        have H156 := Lib.hid (H146.out.step b28)
        clear H146
        have H157 := Lib.hid (H147.out.step b28)
        clear H147
        have H158 := Lib.hid (H148.out.step b28)
        clear H148
        have H159 := Lib.hid (H149.out.step b28)
        clear H149
        have H160 := Lib.hid (H150.out.step b28)
        clear H150
        have H161 := Lib.hid (keep2 b28 H151.out)
        clear H151
        clear b28
        go_wp2
        go_roundw
        case rel => exact ⟨x + 1, (rg17 HX.out HLT.out).1, (rg17 HX.out HLT.out).2, rfl, H161⟩
        case measure => exact meas17 HLT.out
      have HS2 := Lib.hid (show V.contains x = true from HOF.out.c HZ2.out x c2)
      have x20 : wc.cell? ⟨(u4.heap.size), 0, none⟩ = some (.slice ua2 V2.length uc2) := H128.out.c 0 rfl
      have x21 : wc.cell? ⟨(u4.heap.size), 1, none⟩ = some (.slice fa2 M2.length fc2) := H128.out.c 1 rfl
      have z2 : (u4.heap.size) < wc.heap.size := H128.out.2.2
      go_wp2_with fail
      refine (can_q _ _ V2 x true c2 _ H127.out.1 HL2.out).mono ?_
      rintro e u26 ⟨rfl, b26⟩
      clear x20 x21 z2
      have H132 := Lib.hid (H122.out.step b26)
      clear H122
      have H133 := Lib.hid (H123.out.step b26)
      clear H123
      have H134 := Lib.hid (H124.out.step b26)
      clear H124
      have H135 := Lib.hid (H125.out.step b26)
      clear H125
      have H136 := Lib.hid (H126.out.step b26)
      clear H126
      have H137 := Lib.hid (H127.out.step b26)
      clear H127
      have H138 := Lib.hid (H128.out.step b26)
      clear H128
      have H139 := Lib.hid (H129.out.step b26)
      clear H129
      have H140 := Lib.hid (H130.out.step b26)
      clear H130
      have H141 := Lib.hid (keep2 b26 H131.out)
      clear H131
      clear b26
      have xb0 : u26.cell? ⟨(w.heap.size), 0, none⟩ = some (.slice va V.length vc) := H133.out.c 0 rfl
      have xb1 : u26.cell? ⟨(w.heap.size), 1, none⟩ = some (.slice sa L.length sc) := H133.out.c 1 rfl
      have zb : (w.heap.size) < u26.heap.size := H133.out.2.2
      go_wp2_with fail
      refine (can_q _ _ V x true HS2.out _ H132.out.1 HSV.out).mono ?_
      rintro e u27 ⟨rfl, b27⟩
      clear xb0 xb1 zb
      have H142 := Lib.hid (H132.out.step b27)
      clear H132
      have H143 := Lib.hid (H133.out.step b27)
      clear H133
      have H144 := Lib.hid (H134.out.step b27)
      clear H134
      have H145 := Lib.hid (H135.out.step b27)
      clear H135
      have H146 := Lib.hid (H136.out.step b27)
      clear H136
      have H147 := Lib.hid (H137.out.step b27)
      clear H137
      have H148 := Lib.hid (H138.out.step b27)
      clear H138
      have H149 := Lib.hid (H139.out.step b27)
      clear H139
      have H150 := Lib.hid (H140.out.step b27)
      clear H140
      have H151 := Lib.hid (keep2 b27 H141.out)
      clear H141
      clear b27
      by_cases hz3 : Ec = 0
      rotate_left
      · skip
        have g3 : (Ec == 0) = false := by simpa using hz3
        have g3b : decide (Ec = 0) = false := decide_eq_false hz3
        clear hz3
        go_wp2
        go_roundw
        case rel => exact ⟨x + 1, (rg17 HX.out HLT.out).1, (rg17 HX.out HLT.out).2, rfl, H151⟩
        case measure => exact meas17 HLT.out
      have g3 : (Ec == 0) = true := by rw [hz3]; rfl
      have g3b : decide (Ec = 0) = true := decide_eq_true hz3
      have HZ3 := Lib.hid hz3
      clear hz3
      cases c3 : V3.contains x
      · skip
        have x30 : u27.cell? ⟨(u5.heap.size), 0, none⟩ = some (.slice ua3 V3.length uc3) := H150.out.c 0 rfl
        have x31 : u27.cell? ⟨(u5.heap.size), 1, none⟩ = some (.slice fa3 M3.length fc3) := H150.out.c 1 rfl
        have z3 : (u5.heap.size) < u27.heap.size := H150.out.2.2
        go_wp2_with fail
        refine (can_q _ _ V3 x false c3 _ H149.out.1 HL3.out).mono ?_
        rintro e u28 ⟨rfl, b28⟩
        clear x30 x31 z3
        have H152 := Lib.hid (H142.out.step b28)
        clear H142
        have H153 := Lib.hid (H143.out.step b28)
        clear H143
        have H154 := Lib.hid (H144.out.step b28)
        clear H144
        have H155 := Lib.hid (H145.out.step b28)
        clear H145
        have H156 := Lib.hid (H146.out.step b28)
        clear H146
        have H157 := Lib.hid (H147.out.step b28)
        clear H147
        have H158 := Lib.hid (H148.out.step b28)
        clear H148
        have H159 := Lib.hid (H149.out.step b28)
        clear H149
        have H160 := Lib.hid (H150.out.step b28)
        clear H150
        have H161 := Lib.hid (keep2 b28 H151.out)
        clear H151
        clear b28
        go_wp2
        go_roundw
        case rel => exact ⟨x + 1, (rg17 HX.out HLT.out).1, (rg17 HX.out HLT.out).2, rfl, H161⟩
        case measure => exact meas17 HLT.out
      have HS3 := Lib.hid (show V.contains x = true from HOF.out.r HZ3.out x c3)
      have x30 : u27.cell? ⟨(u5.heap.size), 0, none⟩ = some (.slice ua3 V3.length uc3) := H150.out.c 0 rfl
      have x31 : u27.cell? ⟨(u5.heap.size), 1, none⟩ = some (.slice fa3 M3.length fc3) := H150.out.c 1 rfl
      have z3 : (u5.heap.size) < u27.heap.size := H150.out.2.2
      go_wp2_with fail
      refine (can_q _ _ V3 x true c3 _ H149.out.1 HL3.out).mono ?_
      rintro e u28 ⟨rfl, b28⟩
      clear x30 x31 z3
      have H152 := Lib.hid (H142.out.step b28)
      clear H142
      have H153 := Lib.hid (H143.out.step b28)
      clear H143
      have H154 := Lib.hid (H144.out.step b28)
      clear H144
      have H155 := Lib.hid (H145.out.step b28)
      clear H145
      have H156 := Lib.hid (H146.out.step b28)
      clear H146
      have H157 := Lib.hid (H147.out.step b28)
      clear H147
      have H158 := Lib.hid (H148.out.step b28)
      clear H148
      have H159 := Lib.hid (H149.out.step b28)
      clear H149
      have H160 := Lib.hid (H150.out.step b28)
      clear H150
      have H161 := Lib.hid (keep2 b28 H151.out)
      clear H151
      clear b28
      have xb0 : u28.cell? ⟨(w.heap.size), 0, none⟩ = some (.slice va V.length vc) := H153.out.c 0 rfl
      have xb1 : u28.cell? ⟨(w.heap.size), 1, none⟩ = some (.slice sa L.length sc) := H153.out.c 1 rfl
      have zb : (w.heap.size) < u28.heap.size := H153.out.2.2
      go_wp2_with fail
      refine (can_q _ _ V x true HS3.out _ H152.out.1 HSV.out).mono ?_
      rintro e u29 ⟨rfl, b29⟩
      clear xb0 xb1 zb
      have H162 := Lib.hid (H152.out.step b29)
      clear H152
      have H163 := Lib.hid (H153.out.step b29)
      clear H153
      have H164 := Lib.hid (H154.out.step b29)
      clear H154
      have H165 := Lib.hid (H155.out.step b29)
      clear H155
      have H166 := Lib.hid (H156.out.step b29)
      clear H156
      have H167 := Lib.hid (H157.out.step b29)
      clear H157
      have H168 := Lib.hid (H158.out.step b29)
      clear H158
      have H169 := Lib.hid (H159.out.step b29)
      clear H159
      have H170 := Lib.hid (H160.out.step b29)
      clear H160
      have H171 := Lib.hid (keep2 b29 H161.out)
      clear H161
      clear b29
      go_wp2
      go_roundw
      case rel => exact ⟨x + 1, (rg17 HX.out HLT.out).1, (rg17 HX.out HLT.out).2, rfl, H171⟩
      case measure => exact meas17 HLT.out
theorem fm_len {E : Int} {V : List Int} {M : List Od} (h : Fm E V M) : V.length ≤ 300 := by
  by_cases hE : E = 0
  · have := (isW_len (h.1 hE)).2.1; omega
  · rw [(h.2 hE).1]; simp
set_option maxRecDepth 100000 in
set_option maxHeartbeats 8000000 in
theorem orders_any (va : Option Addr) (vc : Nat) (V : List Int) (sa : Option Addr) (sc : Nat) (L : List Od) (o : Od) (q v t : Int) (w : World) (h : Rb V L va vc sa sc w) (h9 : L.length ≤ maxLen) (h8 : V.length ≤ maxLen)  :
    Calls Try.prog 7 #[.agg #[.slice va V.length vc, .slice sa L.length sc], .agg #[.int .i64 o.a, .int .i64 o.b, .int .i64 o.c, .int .i64 o.d], .int .i64 q, .int .i64 v, .int .i64 t] w fun e w' => e = .returned (.bool true) ∧ Below w.heap.size w w' := by
  cases hw : isW V L
  · exact orders_no va vc V sa sc L o q v t w h h9 h8 hw
  · exact orders_go va vc V sa sc L o q v t w h h9 h8 hw rfl rfl rfl rfl rfl rfl rfl rfl rfl (orf o q v t hw) ⟨fm_len (fm_sent o hw), fm_len (fm_conf q hw), fm_len (fm_rep v t hw)⟩
end Go.Proofs.Ytigpopemllamdaa
