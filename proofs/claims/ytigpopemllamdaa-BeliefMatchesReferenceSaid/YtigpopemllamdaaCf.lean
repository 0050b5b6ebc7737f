/- The law 'BeliefFormed'. -/
import Derived.Test.YtigpopemllamdaaCe
import Derived.Deep.CutRange
namespace Go.Proofs.Ytigpopemllamdaa
open Go.RowKit

set_option maxRecDepth 100000 in
set_option maxHeartbeats 8000000 in
theorem formed_bad (ua : Option Addr) (uc : Nat) (fa : Option Addr) (fc : Nat) (E : Int) (hE : E ≠ 0) (w : World) :
    Calls Try.prog 25 #[.agg #[.slice ua 0 uc, .slice fa 0 fc], .int .i64 E] w fun e w' => e = .returned (.bool true) ∧ Below w.heap.size w w' := by
  have HB := Lib.hid (al w (.cells #[.slice ua 0 uc, .slice fa 0 fc] 25))
  have e1 : (E != 0) = true := by simpa using hE
  have e2 : (E == 0) = false := by simpa using hE
  go_enter Try.func25, Try.ntmps25
  go_wp2
  go_ret
  exact ⟨rfl, HB.out⟩
set_option maxRecDepth 100000 in
set_option maxHeartbeats 8000000 in
theorem formed_good (ua : Option Addr) (uc : Nat) (V : List Int) (fa : Option Addr) (fc : Nat) (L : List Od) (w : World) (h : Rb V L ua uc fa fc w) (hw : isW V L = true) :
    Calls Try.prog 25 #[.agg #[.slice ua V.length uc, .slice fa L.length fc], .int .i64 0] w fun e w' => e = .returned (.bool true) ∧ Below w.heap.size w w' := by
  have HB := Lib.hid (al w (.cells #[.slice ua V.length uc, .slice fa L.length fc] 25))
  have HR := Lib.hid (h.step HB.out)
  have H9 := Lib.hid (show L.length ≤ maxLen by have := (isW_len hw).1; unfold maxLen; omega)
  have H8 := Lib.hid (show V.length ≤ maxLen by have := (isW_len hw).2.1; unfold maxLen; omega)
  have HW := Lib.hid hw
  clear h hw
  go_enter Try.func25, Try.ntmps25
  go_wp2_with fail
  refine (validR_any ua uc V fa fc L _ HR.out H9.out H8.out).mono ?_
  rintro e w2 ⟨rfl, b⟩
  rw [HW.out]
  have HB2 := Lib.hid (keep2 b HB.out)
  clear b
  go_wp2
  go_ret
  exact ⟨rfl, HB2.out⟩
/-- A change's answer is as it should be. -/
def Fm (E : Int) (V : List Int) (M : List Od) : Prop := (E = 0 → isW V M = true) ∧ (E ≠ 0 → V = [] ∧ M = [])
theorem formed_any (ua : Option Addr) (uc : Nat) (V : List Int) (fa : Option Addr) (fc : Nat) (L : List Od) (E : Int) (w : World) (h : Rb V L ua uc fa fc w) (hf : Fm E V L) :
    Calls Try.prog 25 #[.agg #[.slice ua V.length uc, .slice fa L.length fc], .int .i64 E] w fun e w' => e = .returned (.bool true) ∧ Below w.heap.size w w' := by
  by_cases hE : E = 0
  · subst hE
    exact formed_good ua uc V fa fc L w h (hf.1 rfl)
  · obtain ⟨rfl, rfl⟩ := hf.2 hE
    exact formed_bad ua uc fa fc E hE w
theorem fm_sent {V : List Int} {L : List Od} (o : Od) (hw : isW V L = true) : Fm (snE V L o) (rV (snE V L o) (L ++ [o])) (rM (snE V L o) (L ++ [o])) := by
  rw [snE_W, if_pos hw]
  refine ⟨fun h => ?_, fun h => ?_⟩
  · rw [h]; exact sent_ok hw h
  · unfold rV rM; rw [if_neg h, if_neg h]; exact ⟨rfl, rfl⟩
theorem fm_conf {V : List Int} {L : List Od} (q : Int) (hw : isW V L = true) : Fm (cnE V L q) (rV (cnE V L q) (cfM q L)) (rM (cnE V L q) (cfM q L)) := by
  rw [cnE_W, if_pos hw]
  refine ⟨fun h => ?_, fun h => ?_⟩
  · rw [h]; exact conf_ok hw h
  · unfold rV rM; rw [if_neg h, if_neg h]; exact ⟨rfl, rfl⟩
theorem fm_rep {V : List Int} {L : List Od} (v t : Int) (hw : isW V L = true) : Fm (rnE V L v t) (rV (rnE V L v t) (rpM L v t)) (rM (rnE V L v t) (rpM L v t)) := by
  rw [rnE_W, if_pos hw]
  refine ⟨fun h => ?_, fun h => ?_⟩
  · rw [h]; exact rep_ok hw h
  · unfold rV rM; rw [if_neg h, if_neg h]; exact ⟨rfl, rfl⟩
set_option maxRecDepth 100000 in
set_option maxHeartbeats 8000000 in
theorem formed_no (va : Option Addr) (vc : Nat) (V : List Int) (sa : Option Addr) (sc : Nat) (L : List Od) (o : Od) (q v t : Int) (w : World) (h : Rb V L va vc sa sc w) (h9 : L.length ≤ maxLen) (h8 : V.length ≤ maxLen) (hw : isW V L = false) :
    Calls Try.prog 4 #[.agg #[.slice va V.length vc, .slice sa L.length sc], .agg #[.int .i64 o.a, .int .i64 o.b, .int .i64 o.c, .int .i64 o.d], .int .i64 q, .int .i64 v, .int .i64 t] w fun e w' => e = .returned (.bool true) ∧ Below w.heap.size w w' := by
  have H0 := Lib.hid (Below.refl w.heap.size w)
  have H1 := Lib.hid (h)
  clear h
  have H2 := Lib.hid (H1.out.step (al w (.cells #[.slice va V.length vc, .slice sa L.length sc] 25)))
  clear H1
  have H3 := Lib.hid (keep2 (al w (.cells #[.slice va V.length vc, .slice sa L.length sc] 25)) H0.out)
  clear H0
  have H4 := Lib.hid (Cs.new w (w.heap.size) #[.slice va V.length vc, .slice sa L.length sc] 25 (by simp))
  have H5 := Lib.hid (H2.out.step (al (w.alloc (.cells #[.slice va V.length vc, .slice sa L.length sc] 25)) (.cells #[.int .i64 o.a, .int .i64 o.b, .int .i64 o.c, .int .i64 o.d] 27)))
  clear H2
  have H6 := Lib.hid (H4.out.step (al (w.alloc (.cells #[.slice va V.length vc, .slice sa L.length sc] 25)) (.cells #[.int .i64 o.a, .int .i64 o.b, .int .i64 o.c, .int .i64 o.d] 27)))
  clear H4
  have H7 := Lib.hid (keep2 (al (w.alloc (.cells #[.slice va V.length vc, .slice sa L.length sc] 25)) (.cells #[.int .i64 o.a, .int .i64 o.b, .int .i64 o.c, .int .i64 o.d] 27)) H3.out)
  clear H3
  have H8 := Lib.hid (Cs.new (w.alloc (.cells #[.slice va V.length vc, .slice sa L.length sc] 25)) (w.heap.size + 1) #[.int .i64 o.a, .int .i64 o.b, .int .i64 o.c, .int .i64 o.d] 27 (by simp))
  go_enter Try.func4, Try.ntmps4
  go_wp2_with fail
  refine (head_any _).mono ?_
  rintro e u1 ⟨rfl, b1⟩
  have H9 := Lib.hid (H5.out.step b1)
  clear H5
  have H10 := Lib.hid (H6.out.step b1)
  clear H6
  have H11 := Lib.hid (H8.out.step b1)
  clear H8
  have H12 := Lib.hid (keep2 b1 H7.out)
  clear H7
  clear b1
  have xb0 : u1.cell? ⟨(w.heap.size), 0, none⟩ = some (.slice va V.length vc) := H10.out.c 0 rfl
  have xb1 : u1.cell? ⟨(w.heap.size), 1, none⟩ = some (.slice sa L.length sc) := H10.out.c 1 rfl
  have zb : (w.heap.size) < u1.heap.size := H10.out.2.2
  go_wp2_with fail
  refine (validR_any va vc V sa sc L _ H9.out h9 h8).mono ?_
  rintro e u2 ⟨rfl, b2⟩
  clear xb0 xb1 zb
  have H13 := Lib.hid (H9.out.step b2)
  clear H9
  have H14 := Lib.hid (H10.out.step b2)
  clear H10
  have H15 := Lib.hid (H11.out.step b2)
  clear H11
  have H16 := Lib.hid (keep2 b2 H12.out)
  clear H12
  clear b2
  rw [hw]
  go_wp2
  go_ret
  exact ⟨rfl, H16.out⟩
set_option maxRecDepth 100000 in
set_option maxHeartbeats 8000000 in
theorem formed_go (va : Option Addr) (vc : Nat) (V : List Int) (sa : Option Addr) (sc : Nat) (L : List Od) (o : Od) (q v t : Int) (w : World) (h : Rb V L va vc sa sc w) (h9 : L.length ≤ maxLen) (h8 : V.length ≤ maxLen) (hw : isW V L = true) {E1 E2 E3 : Int} {V1 V2 V3 : List Int} {M1 M2 M3 : List Od} (hE1 : snE V L o = E1) (hV1 : rV E1 (L ++ [o]) = V1) (hM1 : rM E1 (L ++ [o]) = M1) (hE2 : cnE V L q = E2) (hV2 : rV E2 (cfM q L) = V2) (hM2 : rM E2 (cfM q L) = M2) (hE3 : rnE V L v t = E3) (hV3 : rV E3 (rpM L v t) = V3) (hM3 : rM E3 (rpM L v t) = M3) (hF1 : Fm E1 V1 M1) (hF2 : Fm E2 V2 M2) (hF3 : Fm E3 V3 M3) :
    Calls Try.prog 4 #[.agg #[.slice va V.length vc, .slice sa L.length sc], .agg #[.int .i64 o.a, .int .i64 o.b, .int .i64 o.c, .int .i64 o.d], .int .i64 q, .int .i64 v, .int .i64 t] w fun e w' => e = .returned (.bool true) ∧ Below w.heap.size w w' := by
  have HE1 := Lib.hid hE1
  have HV1 := Lib.hid hV1
  have HM1 := Lib.hid hM1
  have HE2 := Lib.hid hE2
  have HV2 := Lib.hid hV2
  have HM2 := Lib.hid hM2
  have HE3 := Lib.hid hE3
  have HV3 := Lib.hid hV3
  have HM3 := Lib.hid hM3
  clear hE1 hV1 hM1 hE2 hV2 hM2 hE3 hV3 hM3
  have HF1 := Lib.hid hF1
  have HF2 := Lib.hid hF2
  have HF3 := Lib.hid hF3
  have HSL := Lib.hid (show L.length ≤ 300 by have := (isW_len hw).1; omega)
  have HSV := Lib.hid (show V.length ≤ 300 by have := (isW_len hw).2.1; omega)
  clear hF1 hF2 hF3
  have H0 := Lib.hid (Below.refl w.heap.size w)
  have H1 := Lib.hid (h)
  clear h
  have H2 := Lib.hid (H1.out.step (al w (.cells #[.slice va V.length vc, .slice sa L.length sc] 25)))
  clear H1
  have H3 := Lib.hid (keep2 (al w (.cells #[.slice va V.length vc, .slice sa L.length sc] 25)) H0.out)
  clear H0
  have H4 := Lib.hid (Cs.new w (w.heap.size) #[.slice va V.length vc, .slice sa L.length sc] 25 (by simp))
  have H5 := Lib.hid (H2.out.step (al (w.alloc (.cells #[.slice va V.length vc, .slice sa L.length sc] 25)) (.cells #[.int .i64 o.a, .int .i64 o.b, .int .i64 o.c, .int .i64 o.d] 27)))
  clear H2
  have H6 := Lib.hid (H4.out.step (al (w.alloc (.cells #[.slice va V.length vc, .slice sa L.length sc] 25)) (.cells #[.int .i64 o.a, .int .i64 o.b, .int .i64 o.c, .int .i64 o.d] 27)))
  clear H4
  have H7 := Lib.hid (keep2 (al (w.alloc (.cells #[.slice va V.length vc, .slice sa L.length sc] 25)) (.cells #[.int .i64 o.a, .int .i64 o.b, .int .i64 o.c, .int .i64 o.d] 27)) H3.out)
  clear H3
  have H8 := Lib.hid (Cs.new (w.alloc (.cells #[.slice va V.length vc, .slice sa L.length sc] 25)) (w.heap.size + 1) #[.int .i64 o.a, .int .i64 o.b, .int .i64 o.c, .int .i64 o.d] 27 (by simp))
  go_enter Try.func4, Try.ntmps4
  go_wp2_with fail
  refine (head_any _).mono ?_
  rintro e u1 ⟨rfl, b1⟩
  have H9 := Lib.hid (H5.out.step b1)
  clear H5
  have H10 := Lib.hid (H6.out.step b1)
  clear H6
  have H11 := Lib.hid (H8.out.step b1)
  clear H8
  have H12 := Lib.hid (keep2 b1 H7.out)
  clear H7
  clear b1
  have xb0 : u1.cell? ⟨(w.heap.size), 0, none⟩ = some (.slice va V.length vc) := H10.out.c 0 rfl
  have xb1 : u1.cell? ⟨(w.heap.size), 1, none⟩ = some (.slice sa L.length sc) := H10.out.c 1 rfl
  have zb : (w.heap.size) < u1.heap.size := H10.out.2.2
  go_wp2_with fail
  refine (validR_any va vc V sa sc L _ H9.out h9 h8).mono ?_
  rintro e u2 ⟨rfl, b2⟩
  clear xb0 xb1 zb
  have H13 := Lib.hid (H9.out.step b2)
  clear H9
  have H14 := Lib.hid (H10.out.step b2)
  clear H10
  have H15 := Lib.hid (H11.out.step b2)
  clear H11
  have H16 := Lib.hid (keep2 b2 H12.out)
  clear H12
  clear b2
  rw [hw]
  clear hw
  have xb0 : u2.cell? ⟨(w.heap.size), 0, none⟩ = some (.slice va V.length vc) := H14.out.c 0 rfl
  have xb1 : u2.cell? ⟨(w.heap.size), 1, none⟩ = some (.slice sa L.length sc) := H14.out.c 1 rfl
  have zb : (w.heap.size) < u2.heap.size := H14.out.2.2
  have xo0 : u2.cell? ⟨(w.heap.size + 1), 0, none⟩ = some (.int .i64 o.a) := H15.out.c 0 rfl
  have xo1 : u2.cell? ⟨(w.heap.size + 1), 1, none⟩ = some (.int .i64 o.b) := H15.out.c 1 rfl
  have xo2 : u2.cell? ⟨(w.heap.size + 1), 2, none⟩ = some (.int .i64 o.c) := H15.out.c 2 rfl
  have xo3 : u2.cell? ⟨(w.heap.size + 1), 3, none⟩ = some (.int .i64 o.d) := H15.out.c 3 rfl
  have zo : (w.heap.size + 1) < u2.heap.size := H15.out.2.2
  go_wp2_with fail
  refine (sent_q o HE1.out HV1.out HM1.out va vc sa sc _ H13.out HSL.out HSV.out).mono ?_
  rintro e u3 ⟨ua1, uc1, fa1, fc1, rfl, b3, hr⟩
  clear xb0 xb1 zb xo0 xo1 xo2 xo3 zo
  have H17 := Lib.hid (H13.out.step b3)
  clear H13
  have H18 := Lib.hid (H14.out.step b3)
  clear H14
  have H19 := Lib.hid (H15.out.step b3)
  clear H15
  have H20 := Lib.hid (keep2 b3 H16.out)
  clear H16
  clear b3
  have H21 := Lib.hid (hr)
  clear hr
  have H22 := Lib.hid (H17.out.step (al u3 (.cells #[.slice ua1 V1.length uc1, .slice fa1 M1.length fc1] 25)))
  clear H17
  have H23 := Lib.hid (H18.out.step (al u3 (.cells #[.slice ua1 V1.length uc1, .slice fa1 M1.length fc1] 25)))
  clear H18
  have H24 := Lib.hid (H19.out.step (al u3 (.cells #[.slice ua1 V1.length uc1, .slice fa1 M1.length fc1] 25)))
  clear H19
  have H25 := Lib.hid (H21.out.step (al u3 (.cells #[.slice ua1 V1.length uc1, .slice fa1 M1.length fc1] 25)))
  clear H21
  have H26 := Lib.hid (keep2 (al u3 (.cells #[.slice ua1 V1.length uc1, .slice fa1 M1.length fc1] 25)) H20.out)
  clear H20
  have H27 := Lib.hid (Cs.new u3 (u3.heap.size) #[.slice ua1 V1.length uc1, .slice fa1 M1.length fc1] 25 (by simp))
  have xb0 : (u3.alloc (.cells #[.slice ua1 V1.length uc1, .slice fa1 M1.length fc1] 25)).cell? ⟨(w.heap.size), 0, none⟩ = some (.slice va V.length vc) := H23.out.c 0 rfl
  have xb1 : (u3.alloc (.cells #[.slice ua1 V1.length uc1, .slice fa1 M1.length fc1] 25)).cell? ⟨(w.heap.size), 1, none⟩ = some (.slice sa L.length sc) := H23.out.c 1 rfl
  have zb : (w.heap.size) < (u3.alloc (.cells #[.slice ua1 V1.length uc1, .slice fa1 M1.length fc1] 25)).heap.size := H23.out.2.2
  go_wp2_with fail
  refine (confirmed_q q HE2.out HV2.out HM2.out va vc sa sc _ H22.out HSL.out HSV.out).mono ?_
  rintro e u4 ⟨ua2, uc2, fa2, fc2, rfl, b4, hr⟩
  clear xb0 xb1 zb
  have H28 := Lib.hid (H22.out.step b4)
  clear H22
  have H29 := Lib.hid (H23.out.step b4)
  clear H23
  have H30 := Lib.hid (H24.out.step b4)
  clear H24
  have H31 := Lib.hid (H25.out.step b4)
  clear H25
  have H32 := Lib.hid (H27.out.step b4)
  clear H27
  have H33 := Lib.hid (keep2 b4 H26.out)
  clear H26
  clear b4
  have H34 := Lib.hid (hr)
  clear hr
  have H35 := Lib.hid (H28.out.step (al u4 (.cells #[.slice ua2 V2.length uc2, .slice fa2 M2.length fc2] 25)))
  clear H28
  have H36 := Lib.hid (H29.out.step (al u4 (.cells #[.slice ua2 V2.length uc2, .slice fa2 M2.length fc2] 25)))
  clear H29
  have H37 := Lib.hid (H30.out.step (al u4 (.cells #[.slice ua2 V2.length uc2, .slice fa2 M2.length fc2] 25)))
  clear H30
  have H38 := Lib.hid (H31.out.step (al u4 (.cells #[.slice ua2 V2.length uc2, .slice fa2 M2.length fc2] 25)))
  clear H31
  have H39 := Lib.hid (H32.out.step (al u4 (.cells #[.slice ua2 V2.length uc2, .slice fa2 M2.length fc2] 25)))
  clear H32
  have H40 := Lib.hid (H34.out.step (al u4 (.cells #[.slice ua2 V2.length uc2, .slice fa2 M2.length fc2] 25)))
  clear H34
  have H41 := Lib.hid (keep2 (al u4 (.cells #[.slice ua2 V2.length uc2, .slice fa2 M2.length fc2] 25)) H33.out)
  clear H33
  have H42 := Lib.hid (Cs.new u4 (u4.heap.size) #[.slice ua2 V2.length uc2, .slice fa2 M2.length fc2] 25 (by simp))
  have xb0 : (u4.alloc (.cells #[.slice ua2 V2.length uc2, .slice fa2 M2.length fc2] 25)).cell? ⟨(w.heap.size), 0, none⟩ = some (.slice va V.length vc) := H36.out.c 0 rfl
  have xb1 : (u4.alloc (.cells #[.slice ua2 V2.length uc2, .slice fa2 M2.length fc2] 25)).cell? ⟨(w.heap.size), 1, none⟩ = some (.slice sa L.length sc) := H36.out.c 1 rfl
  have zb : (w.heap.size) < (u4.alloc (.cells #[.slice ua2 V2.length uc2, .slice fa2 M2.length fc2] 25)).heap.size := H36.out.2.2
  go_wp2_with fail
  refine (reported_q v t HE3.out HV3.out HM3.out va vc sa sc _ H35.out HSL.out HSV.out).mono ?_
  rintro e u5 ⟨ua3, uc3, fa3, fc3, rfl, b5, hr⟩
  clear xb0 xb1 zb
  have H43 := Lib.hid (H35.out.step b5)
  clear H35
  have H44 := Lib.hid (H36.out.step b5)
  clear H36
  have H45 := Lib.hid (H37.out.step b5)
  clear H37
  have H46 := Lib.hid (H38.out.step b5)
  clear H38
  have H47 := Lib.hid (H39.out.step b5)
  clear H39
  have H48 := Lib.hid (H40.out.step b5)
  clear H40
  have H49 := Lib.hid (H42.out.step b5)
  clear H42
  have H50 := Lib.hid (keep2 b5 H41.out)
  clear H41
  clear b5
  have H51 := Lib.hid (hr)
  clear hr
  have H52 := Lib.hid (H43.out.step (al u5 (.cells #[.slice ua3 V3.length uc3, .slice fa3 M3.length fc3] 25)))
  clear H43
  have H53 := Lib.hid (H44.out.step (al u5 (.cells #[.slice ua3 V3.length uc3, .slice fa3 M3.length fc3] 25)))
  clear H44
  have H54 := Lib.hid (H45.out.step (al u5 (.cells #[.slice ua3 V3.length uc3, .slice fa3 M3.length fc3] 25)))
  clear H45
  have H55 := Lib.hid (H46.out.step (al u5 (.cells #[.slice ua3 V3.length uc3, .slice fa3 M3.length fc3] 25)))
  clear H46
  have H56 := Lib.hid (H47.out.step (al u5 (.cells #[.slice ua3 V3.length uc3, .slice fa3 M3.length fc3] 25)))
  clear H47
  have H57 := Lib.hid (H48.out.step (al u5 (.cells #[.slice ua3 V3.length uc3, .slice fa3 M3.length fc3] 25)))
  clear H48
  have H58 := Lib.hid (H49.out.step (al u5 (.cells #[.slice ua3 V3.length uc3, .slice fa3 M3.length fc3] 25)))
  clear H49
  have H59 := Lib.hid (H51.out.step (al u5 (.cells #[.slice ua3 V3.length uc3, .slice fa3 M3.length fc3] 25)))
  clear H51
  have H60 := Lib.hid (keep2 (al u5 (.cells #[.slice ua3 V3.length uc3, .slice fa3 M3.length fc3] 25)) H50.out)
  clear H50
  have H61 := Lib.hid (Cs.new u5 (u5.heap.size) #[.slice ua3 V3.length uc3, .slice fa3 M3.length fc3] 25 (by simp))
  have x10 : (u5.alloc (.cells #[.slice ua3 V3.length uc3, .slice fa3 M3.length fc3] 25)).cell? ⟨(u3.heap.size), 0, none⟩ = some (.slice ua1 V1.length uc1) := H56.out.c 0 rfl
  have x11 : (u5.alloc (.cells #[.slice ua3 V3.length uc3, .slice fa3 M3.length fc3] 25)).cell? ⟨(u3.heap.size), 1, none⟩ = some (.slice fa1 M1.length fc1) := H56.out.c 1 rfl
  have z1 : (u3.heap.size) < (u5.alloc (.cells #[.slice ua3 V3.length uc3, .slice fa3 M3.length fc3] 25)).heap.size := H56.out.2.2
  go_wp2_with fail
  refine (formed_any ua1 uc1 V1 fa1 fc1 M1 E1 _ H55.out HF1.out).mono ?_
  rintro e u6 ⟨rfl, b6⟩
  clear x10 x11 z1
  have H62 := Lib.hid (H52.out.step b6)
  clear H52
  have H63 := Lib.hid (H53.out.step b6)
  clear H53
  have H64 := Lib.hid (H54.out.step b6)
  clear H54
  have H65 := Lib.hid (H55.out.step b6)
  clear H55
  have H66 := Lib.hid (H56.out.step b6)
  clear H56
  have H67 := Lib.hid (H57.out.step b6)
  clear H57
  have H68 := Lib.hid (H58.out.step b6)
  clear H58
  have H69 := Lib.hid (H59.out.step b6)
  clear H59
  have H70 := Lib.hid (H61.out.step b6)
  clear H61
  have H71 := Lib.hid (keep2 b6 H60.out)
  clear H60
  clear b6
  have x20 : u6.cell? ⟨(u4.heap.size), 0, none⟩ = some (.slice ua2 V2.length uc2) := H68.out.c 0 rfl
  have x21 : u6.cell? ⟨(u4.heap.size), 1, none⟩ = some (.slice fa2 M2.length fc2) := H68.out.c 1 rfl
  have z2 : (u4.heap.size) < u6.heap.size := H68.out.2.2
  go_wp2_with fail
  refine (formed_any ua2 uc2 V2 fa2 fc2 M2 E2 _ H67.out HF2.out).mono ?_
  rintro e u7 ⟨rfl, b7⟩
  clear x20 x21 z2
  have H72 := Lib.hid (H62.out.step b7)
  clear H62
  have H73 := Lib.hid (H63.out.step b7)
  clear H63
  have H74 := Lib.hid (H64.out.step b7)
  clear H64
  have H75 := Lib.hid (H65.out.step b7)
  clear H65
  have H76 := Lib.hid (H66.out.step b7)
  clear H66
  have H77 := Lib.hid (H67.out.step b7)
  clear H67
  have H78 := Lib.hid (H68.out.step b7)
  clear H68
  have H79 := Lib.hid (H69.out.step b7)
  clear H69
  have H80 := Lib.hid (H70.out.step b7)
  clear H70
  have H81 := Lib.hid (keep2 b7 H71.out)
  clear H71
  clear b7
  have x30 : u7.cell? ⟨(u5.heap.size), 0, none⟩ = some (.slice ua3 V3.length uc3) := H80.out.c 0 rfl
  have x31 : u7.cell? ⟨(u5.heap.size), 1, none⟩ = some (.slice fa3 M3.length fc3) := H80.out.c 1 rfl
  have z3 : (u5.heap.size) < u7.heap.size := H80.out.2.2
  go_wp2_with fail
  refine (formed_any ua3 uc3 V3 fa3 fc3 M3 E3 _ H79.out HF3.out).mono ?_
  rintro e u8 ⟨rfl, b8⟩
  clear x30 x31 z3
  have H82 := Lib.hid (H72.out.step b8)
  clear H72
  have H83 := Lib.hid (H73.out.step b8)
  clear H73
  have H84 := Lib.hid (H74.out.step b8)
  clear H74
  have H85 := Lib.hid (H75.out.step b8)
  clear H75
  have H86 := Lib.hid (H76.out.step b8)
  clear H76
  have H87 := Lib.hid (H77.out.step b8)
  clear H77
  have H88 := Lib.hid (H78.out.step b8)
  clear H78
  have H89 := Lib.hid (H79.out.step b8)
  clear H79
  have H90 := Lib.hid (H80.out.step b8)
  clear H80
  have H91 := Lib.hid (keep2 b8 H81.out)
  clear H81
  clear b8
  go_wp2
  go_ret
  exact ⟨rfl, H91.out⟩
set_option maxRecDepth 100000 in
set_option maxHeartbeats 8000000 in
theorem lformed_any (va : Option Addr) (vc : Nat) (V : List Int) (sa : Option Addr) (sc : Nat) (L : List Od) (o : Od) (q v t : Int) (w : World) (h : Rb V L va vc sa sc w) (h9 : L.length ≤ maxLen) (h8 : V.length ≤ maxLen)  :
    Calls Try.prog 4 #[.agg #[.slice va V.length vc, .slice sa L.length sc], .agg #[.int .i64 o.a, .int .i64 o.b, .int .i64 o.c, .int .i64 o.d], .int .i64 q, .int .i64 v, .int .i64 t] w fun e w' => e = .returned (.bool true) ∧ Below w.heap.size w w' := by
  cases hw : isW V L
  · exact formed_no va vc V sa sc L o q v t w h h9 h8 hw
  · exact formed_go va vc V sa sc L o q v t w h h9 h8 hw rfl rfl rfl rfl rfl rfl rfl rfl rfl (fm_sent o hw) (fm_conf q hw) (fm_rep v t hw)
end Go.Proofs.Ytigpopemllamdaa
