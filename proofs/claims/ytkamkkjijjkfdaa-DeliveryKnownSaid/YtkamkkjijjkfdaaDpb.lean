/- Delivery: the law's walk, more of 'DeliveryKnown'. -/
import Derived.Test.YtkamkkjijjkfdaaDp
namespace Go.Proofs.Ytkamkkjijjkfdaa
open Go.RowKit

set_option maxRecDepth 100000 in
set_option maxHeartbeats 8000000 in
theorem known_did22 (t f dn a b c d pa pb pc pd x : Int) (T1 : Int) (A1 : List Bool) (V1 : List Int) (T2 F2 D2 er2 : Int) (A2 : List Bool) (V2 : List Int) (ok2 : Bool) (sa va : Option Addr) (sc vc : Nat) (L : List Bool) (l : List Int) (w : World) (hs : BosAt w (.slice sa L.length sc) L) (hc : L.length ≤ sc) (hv : IntsAt w (.slice va l.length vc) l) (hsm : (decide (0 ≤ 30) && (decide (l.length ≤ 30) && decide (L.length ≤ 30))) = true) (hwf : WF t L) (hrv : rvB f l dn = true) (hdn : ¬ 1000000 < dn) (hrw : RW t L f l dn a b c d T1 A1 b V1 (dn + 1) true 0) (hvl : V1.length = l.length) (hal : A1.length ≤ 100000) (hob : orB a b c d = true) (hbf : f ≤ b) (hx : 0 ≤ x ∧ x ≤ 65535) (hrw2 : RW T1 A1 b V1 (dn + 1) a pb pc pd T2 A2 F2 V2 D2 ok2 er2) (hop : orB a pb pc pd = true) (hpc : ¬ pc < l.length) (hfx : b + 1 + x ≤ 1000000000) (hrw3 : RW t L (b + 1 + x) l dn a b c d t L (b + 1 + x) l dn false 23) :
    Calls Try.prog 7 #[.agg #[.int .i64 t, .slice sa L.length sc, .int .i64 f, .slice va l.length vc, .int .i64 dn], .agg #[.int .i64 a, .int .i64 b, .int .i64 c, .int .i64 d], .agg #[.int .i64 pa, .int .i64 pb, .int .i64 pc, .int .i64 pd], .int .u16 x] w fun e w' => e = .returned (.bool true) ∧ Below w.heap.size w w' := by
  have HS := Lib.hid hs
  have HV := Lib.hid hv
  have HCP := Lib.hid hc
  clear hs hv hc
  have HSM := Lib.hid hsm
  clear hsm
  have HWF := Lib.hid hwf
  have HRV := Lib.hid hrv
  clear hwf hrv
  have g1 : decide (dn > 1000000) = false := by simp; omega
  have g2 : decide (1000000 < dn) = false := by simp; omega
  clear hdn
  have HLN := Lib.hid (show L.length ≤ 100000 ∧ l.length ≤ 100000 by have := HSM.out; simp at this; omega)
  have HRW := Lib.hid hrw
  have HVL := Lib.hid hvl
  have HAL := Lib.hid hal
  have HOB := Lib.hid hob
  have HBF := Lib.hid hbf
  have HX := Lib.hid hx
  have e1 : decide (dn + 1 = dn) = false := decide_eq_false (by omega)
  have e2 : (dn + 1 == dn) = false := beq_eq_false_iff_ne.2 (by omega)
  have HRW2 := Lib.hid hrw2
  have HOP := Lib.hid hop
  clear hrw hvl hal hob hbf hx hrw2 hop
  have HFX := Lib.hid hfx
  clear hfx
  have HRW3 := Lib.hid hrw3
  clear hrw3
  have n1 : decide (pc < (l.length : Int)) = false := by simpa using hpc
  clear hpc
  have H0 := Lib.hid (Below.refl w.heap.size w)
  have H1 := Lib.hid (keep2 (al w (.cells #[.int .i64 t, .slice sa L.length sc, .int .i64 f, .slice va l.length vc, .int .i64 dn] 30)) H0.out)
  clear H0
  have H2 := Lib.hid (Cs.new w (w.heap.size) #[.int .i64 t, .slice sa L.length sc, .int .i64 f, .slice va l.length vc, .int .i64 dn] 30 (by simp))
  have H3 := Lib.hid (H2.out.step (al (w.alloc (.cells #[.int .i64 t, .slice sa L.length sc, .int .i64 f, .slice va l.length vc, .int .i64 dn] 30)) (.cells #[.int .i64 a, .int .i64 b, .int .i64 c, .int .i64 d] 32)))
  clear H2
  have H4 := Lib.hid (keep2 (al (w.alloc (.cells #[.int .i64 t, .slice sa L.length sc, .int .i64 f, .slice va l.length vc, .int .i64 dn] 30)) (.cells #[.int .i64 a, .int .i64 b, .int .i64 c, .int .i64 d] 32)) H1.out)
  clear H1
  have H5 := Lib.hid (Cs.new (w.alloc (.cells #[.int .i64 t, .slice sa L.length sc, .int .i64 f, .slice va l.length vc, .int .i64 dn] 30)) (w.heap.size + 1) #[.int .i64 a, .int .i64 b, .int .i64 c, .int .i64 d] 32 (by simp))
  have H6 := Lib.hid (H3.out.step (al ((w.alloc (.cells #[.int .i64 t, .slice sa L.length sc, .int .i64 f, .slice va l.length vc, .int .i64 dn] 30)).alloc (.cells #[.int .i64 a, .int .i64 b, .int .i64 c, .int .i64 d] 32)) (.cells #[.int .i64 pa, .int .i64 pb, .int .i64 pc, .int .i64 pd] 32)))
  clear H3
  have H7 := Lib.hid (H5.out.step (al ((w.alloc (.cells #[.int .i64 t, .slice sa L.length sc, .int .i64 f, .slice va l.length vc, .int .i64 dn] 30)).alloc (.cells #[.int .i64 a, .int .i64 b, .int .i64 c, .int .i64 d] 32)) (.cells #[.int .i64 pa, .int .i64 pb, .int .i64 pc, .int .i64 pd] 32)))
  clear H5
  have H8 := Lib.hid (keep2 (al ((w.alloc (.cells #[.int .i64 t, .slice sa L.length sc, .int .i64 f, .slice va l.length vc, .int .i64 dn] 30)).alloc (.cells #[.int .i64 a, .int .i64 b, .int .i64 c, .int .i64 d] 32)) (.cells #[.int .i64 pa, .int .i64 pb, .int .i64 pc, .int .i64 pd] 32)) H4.out)
  clear H4
  have H9 := Lib.hid (Cs.new ((w.alloc (.cells #[.int .i64 t, .slice sa L.length sc, .int .i64 f, .slice va l.length vc, .int .i64 dn] 30)).alloc (.cells #[.int .i64 a, .int .i64 b, .int .i64 c, .int .i64 d] 32)) (w.heap.size + 1 + 1) #[.int .i64 pa, .int .i64 pb, .int .i64 pc, .int .i64 pd] 32 (by simp))
  go_enter Try.func7, Try.ntmps7
  go_wp2_with fail
  refine (head_any _).mono ?_
  rintro e u1 ⟨rfl, b1⟩
  have H10 := Lib.hid (H6.out.step b1)
  clear H6
  have H11 := Lib.hid (H7.out.step b1)
  clear H7
  have H12 := Lib.hid (H9.out.step b1)
  clear H9
  have H13 := Lib.hid (keep2 b1 H8.out)
  clear H8
  clear b1
  have xR0 : u1.cell? ⟨(w.heap.size), 0, none⟩ = some (.int .i64 t) := H10.out.c 0 rfl
  have xR1 : u1.cell? ⟨(w.heap.size), 1, none⟩ = some (.slice sa L.length sc) := H10.out.c 1 rfl
  have xR2 : u1.cell? ⟨(w.heap.size), 2, none⟩ = some (.int .i64 f) := H10.out.c 2 rfl
  have xR3 : u1.cell? ⟨(w.heap.size), 3, none⟩ = some (.slice va l.length vc) := H10.out.c 3 rfl
  have xR4 : u1.cell? ⟨(w.heap.size), 4, none⟩ = some (.int .i64 dn) := H10.out.c 4 rfl
  have zR : (w.heap.size) < u1.heap.size := H10.out.2.2
  go_wp2_with fail
  refine (small_any 0 t f dn none sa va 0 L.length l.length 0 sc vc true HSM.out _).mono ?_
  rintro e u2 ⟨rfl, b2⟩
  clear xR0 xR1 xR2 xR3 xR4 zR
  have H14 := Lib.hid (H10.out.step b2)
  clear H10
  have H15 := Lib.hid (H11.out.step b2)
  clear H11
  have H16 := Lib.hid (H12.out.step b2)
  clear H12
  have H17 := Lib.hid (keep2 b2 H13.out)
  clear H13
  clear b2
  have xR0 : u2.cell? ⟨(w.heap.size), 0, none⟩ = some (.int .i64 t) := H14.out.c 0 rfl
  have xR1 : u2.cell? ⟨(w.heap.size), 1, none⟩ = some (.slice sa L.length sc) := H14.out.c 1 rfl
  have xR2 : u2.cell? ⟨(w.heap.size), 2, none⟩ = some (.int .i64 f) := H14.out.c 2 rfl
  have xR3 : u2.cell? ⟨(w.heap.size), 3, none⟩ = some (.slice va l.length vc) := H14.out.c 3 rfl
  have xR4 : u2.cell? ⟨(w.heap.size), 4, none⟩ = some (.int .i64 dn) := H14.out.c 4 rfl
  have zR : (w.heap.size) < u2.heap.size := H14.out.2.2
  go_wp2_with fail
  refine (rrecv_win t f dn sa va sc vc L l _ (HS.out.step H17.out) HCP.out (HV.out.step H17.out) HWF.out _ HRV.out).mono ?_
  rintro e u3 ⟨rfl, b3⟩
  clear xR0 xR1 xR2 xR3 xR4 zR
  have H18 := Lib.hid (H14.out.step b3)
  clear H14
  have H19 := Lib.hid (H15.out.step b3)
  clear H15
  have H20 := Lib.hid (H16.out.step b3)
  clear H16
  have H21 := Lib.hid (keep2 b3 H17.out)
  clear H17
  clear b3
  have xR0 : u3.cell? ⟨(w.heap.size), 0, none⟩ = some (.int .i64 t) := H18.out.c 0 rfl
  have xR1 : u3.cell? ⟨(w.heap.size), 1, none⟩ = some (.slice sa L.length sc) := H18.out.c 1 rfl
  have xR2 : u3.cell? ⟨(w.heap.size), 2, none⟩ = some (.int .i64 f) := H18.out.c 2 rfl
  have xR3 : u3.cell? ⟨(w.heap.size), 3, none⟩ = some (.slice va l.length vc) := H18.out.c 3 rfl
  have xR4 : u3.cell? ⟨(w.heap.size), 4, none⟩ = some (.int .i64 dn) := H18.out.c 4 rfl
  have zR : (w.heap.size) < u3.heap.size := H18.out.2.2
  have HZ0 := Lib.hid (show w.heap.size + 1 + 1 < u3.heap.size from H20.out.2.2)
  have xO0 : u3.cell? ⟨(w.heap.size + 1), 0, none⟩ = some (.int .i64 a) := H19.out.c 0 rfl
  have xO1 : u3.cell? ⟨(w.heap.size + 1), 1, none⟩ = some (.int .i64 b) := H19.out.c 1 rfl
  have xO2 : u3.cell? ⟨(w.heap.size + 1), 2, none⟩ = some (.int .i64 c) := H19.out.c 2 rfl
  have xO3 : u3.cell? ⟨(w.heap.size + 1), 3, none⟩ = some (.int .i64 d) := H19.out.c 3 rfl
  have zO : (w.heap.size + 1) < u3.heap.size := H19.out.2.2
  go_wp2_with fail
  refine (receive_is HRW.out _ _ _ (HS.out.step H21.out) (HV.out.step H21.out) HLN.out.1 HLN.out.2).mono ?_
  rintro e u4 ⟨c1, d1, a1, v1, rfl, hq, hB, hI, b4, hG, hK⟩
  clear xR0 xR1 xR2 xR3 xR4 zR xO0 xO1 xO2 xO3 zO
  have H22 := Lib.hid (H18.out.step b4)
  clear H18
  have H23 := Lib.hid (H19.out.step b4)
  clear H19
  have H24 := Lib.hid (H20.out.step b4)
  clear H20
  have H25 := Lib.hid (keep2 b4 H21.out)
  clear H21
  clear b4
  have H26 := Lib.hid (hB)
  have H27 := Lib.hid (hI)
  have HG1 := Lib.hid hG
  have HK1 := Lib.hid hK
  clear hB hI hG hK hq
  have HZ1 := Lib.hid (show w.heap.size + 1 + 1 < u4.heap.size from H24.out.2.2)
  have H28 := Lib.hid (H22.out.step (al u4 (.cells #[.int .i64 T1, .slice a1 A1.length c1, .int .i64 b, .slice v1 l.length d1, .int .i64 (dn + 1)] 30)))
  clear H22
  have H29 := Lib.hid (H23.out.step (al u4 (.cells #[.int .i64 T1, .slice a1 A1.length c1, .int .i64 b, .slice v1 l.length d1, .int .i64 (dn + 1)] 30)))
  clear H23
  have H30 := Lib.hid (H24.out.step (al u4 (.cells #[.int .i64 T1, .slice a1 A1.length c1, .int .i64 b, .slice v1 l.length d1, .int .i64 (dn + 1)] 30)))
  clear H24
  have H31 := Lib.hid (H26.out.step (al u4 (.cells #[.int .i64 T1, .slice a1 A1.length c1, .int .i64 b, .slice v1 l.length d1, .int .i64 (dn + 1)] 30)))
  clear H26
  have H32 := Lib.hid (H27.out.step (al u4 (.cells #[.int .i64 T1, .slice a1 A1.length c1, .int .i64 b, .slice v1 l.length d1, .int .i64 (dn + 1)] 30)))
  clear H27
  have H33 := Lib.hid (keep2 (al u4 (.cells #[.int .i64 T1, .slice a1 A1.length c1, .int .i64 b, .slice v1 l.length d1, .int .i64 (dn + 1)] 30)) H25.out)
  clear H25
  have H34 := Lib.hid (Cs.new u4 (u4.heap.size) #[.int .i64 T1, .slice a1 A1.length c1, .int .i64 b, .slice v1 l.length d1, .int .i64 (dn + 1)] 30 (by simp))
  have xpR10 : (u4.alloc (.cells #[.int .i64 T1, .slice a1 A1.length c1, .int .i64 b, .slice v1 l.length d1, .int .i64 (dn + 1)] 30)).cell? ⟨(u4.heap.size), 0, none⟩ = some (.int .i64 T1) := H34.out.c 0 rfl
  have xpR11 : (u4.alloc (.cells #[.int .i64 T1, .slice a1 A1.length c1, .int .i64 b, .slice v1 l.length d1, .int .i64 (dn + 1)] 30)).cell? ⟨(u4.heap.size), 1, none⟩ = some (.slice a1 A1.length c1) := H34.out.c 1 rfl
  have xpR12 : (u4.alloc (.cells #[.int .i64 T1, .slice a1 A1.length c1, .int .i64 b, .slice v1 l.length d1, .int .i64 (dn + 1)] 30)).cell? ⟨(u4.heap.size), 2, none⟩ = some (.int .i64 b) := H34.out.c 2 rfl
  have xpR13 : (u4.alloc (.cells #[.int .i64 T1, .slice a1 A1.length c1, .int .i64 b, .slice v1 l.length d1, .int .i64 (dn + 1)] 30)).cell? ⟨(u4.heap.size), 3, none⟩ = some (.slice v1 l.length d1) := H34.out.c 3 rfl
  have xpR14 : (u4.alloc (.cells #[.int .i64 T1, .slice a1 A1.length c1, .int .i64 b, .slice v1 l.length d1, .int .i64 (dn + 1)] 30)).cell? ⟨(u4.heap.size), 4, none⟩ = some (.int .i64 (dn + 1)) := H34.out.c 4 rfl
  have zpR1 : (u4.heap.size) < (u4.alloc (.cells #[.int .i64 T1, .slice a1 A1.length c1, .int .i64 b, .slice v1 l.length d1, .int .i64 (dn + 1)] 30)).heap.size := H34.out.2.2
  have xpR0 : (u4.alloc (.cells #[.int .i64 T1, .slice a1 A1.length c1, .int .i64 b, .slice v1 l.length d1, .int .i64 (dn + 1)] 30)).cell? ⟨(w.heap.size), 0, none⟩ = some (.int .i64 t) := H28.out.c 0 rfl
  have xpR1 : (u4.alloc (.cells #[.int .i64 T1, .slice a1 A1.length c1, .int .i64 b, .slice v1 l.length d1, .int .i64 (dn + 1)] 30)).cell? ⟨(w.heap.size), 1, none⟩ = some (.slice sa L.length sc) := H28.out.c 1 rfl
  have xpR2 : (u4.alloc (.cells #[.int .i64 T1, .slice a1 A1.length c1, .int .i64 b, .slice v1 l.length d1, .int .i64 (dn + 1)] 30)).cell? ⟨(w.heap.size), 2, none⟩ = some (.int .i64 f) := H28.out.c 2 rfl
  have xpR3 : (u4.alloc (.cells #[.int .i64 T1, .slice a1 A1.length c1, .int .i64 b, .slice v1 l.length d1, .int .i64 (dn + 1)] 30)).cell? ⟨(w.heap.size), 3, none⟩ = some (.slice va l.length vc) := H28.out.c 3 rfl
  have xpR4 : (u4.alloc (.cells #[.int .i64 T1, .slice a1 A1.length c1, .int .i64 b, .slice v1 l.length d1, .int .i64 (dn + 1)] 30)).cell? ⟨(w.heap.size), 4, none⟩ = some (.int .i64 dn) := H28.out.c 4 rfl
  have zpR : (w.heap.size) < (u4.alloc (.cells #[.int .i64 T1, .slice a1 A1.length c1, .int .i64 b, .slice v1 l.length d1, .int .i64 (dn + 1)] 30)).heap.size := H28.out.2.2
  have xpO0 : (u4.alloc (.cells #[.int .i64 T1, .slice a1 A1.length c1, .int .i64 b, .slice v1 l.length d1, .int .i64 (dn + 1)] 30)).cell? ⟨(w.heap.size + 1), 0, none⟩ = some (.int .i64 a) := H29.out.c 0 rfl
  have xpO1 : (u4.alloc (.cells #[.int .i64 T1, .slice a1 A1.length c1, .int .i64 b, .slice v1 l.length d1, .int .i64 (dn + 1)] 30)).cell? ⟨(w.heap.size + 1), 1, none⟩ = some (.int .i64 b) := H29.out.c 1 rfl
  have xpO2 : (u4.alloc (.cells #[.int .i64 T1, .slice a1 A1.length c1, .int .i64 b, .slice v1 l.length d1, .int .i64 (dn + 1)] 30)).cell? ⟨(w.heap.size + 1), 2, none⟩ = some (.int .i64 c) := H29.out.c 2 rfl
  have xpO3 : (u4.alloc (.cells #[.int .i64 T1, .slice a1 A1.length c1, .int .i64 b, .slice v1 l.length d1, .int .i64 (dn + 1)] 30)).cell? ⟨(w.heap.size + 1), 3, none⟩ = some (.int .i64 d) := H29.out.c 3 rfl
  have zpO : (w.heap.size + 1) < (u4.alloc (.cells #[.int .i64 T1, .slice a1 A1.length c1, .int .i64 b, .slice v1 l.length d1, .int .i64 (dn + 1)] 30)).heap.size := H29.out.2.2
  have xpP0 : (u4.alloc (.cells #[.int .i64 T1, .slice a1 A1.length c1, .int .i64 b, .slice v1 l.length d1, .int .i64 (dn + 1)] 30)).cell? ⟨(w.heap.size + 1 + 1), 0, none⟩ = some (.int .i64 pa) := H30.out.c 0 rfl
  have xpP1 : (u4.alloc (.cells #[.int .i64 T1, .slice a1 A1.length c1, .int .i64 b, .slice v1 l.length d1, .int .i64 (dn + 1)] 30)).cell? ⟨(w.heap.size + 1 + 1), 1, none⟩ = some (.int .i64 pb) := H30.out.c 1 rfl
  have xpP2 : (u4.alloc (.cells #[.int .i64 T1, .slice a1 A1.length c1, .int .i64 b, .slice v1 l.length d1, .int .i64 (dn + 1)] 30)).cell? ⟨(w.heap.size + 1 + 1), 2, none⟩ = some (.int .i64 pc) := H30.out.c 2 rfl
  have xpP3 : (u4.alloc (.cells #[.int .i64 T1, .slice a1 A1.length c1, .int .i64 b, .slice v1 l.length d1, .int .i64 (dn + 1)] 30)).cell? ⟨(w.heap.size + 1 + 1), 3, none⟩ = some (.int .i64 pd) := H30.out.c 3 rfl
  have zpP : (w.heap.size + 1 + 1) < (u4.alloc (.cells #[.int .i64 T1, .slice a1 A1.length c1, .int .i64 b, .slice v1 l.length d1, .int .i64 (dn + 1)] 30)).heap.size := H30.out.2.2
  have yP0 : (u4.alloc (.cells #[.int .i64 T1, .slice a1 A1.length c1, .int .i64 b, .slice v1 l.length d1, .int .i64 (dn + 1)] 30)).frozen? ⟨(w.heap.size + 1 + 1), 0, none⟩ = false := H30.out.f 0 (by simp)
  have H35 := Lib.hid (Cs.other H28.out (show (w.heap.size) ≠ (w.heap.size + 1 + 1) by omega) 0 (.int .i64 a))
  clear H28
  have H36 := Lib.hid (Cs.other H29.out (show (w.heap.size + 1) ≠ (w.heap.size + 1 + 1) by omega) 0 (.int .i64 a))
  clear H29
  have H37 := Lib.hid (Cs.set H30.out 0 (by simp) (.int .i64 a) (vs' := #[.int .i64 a, .int .i64 pb, .int .i64 pc, .int .i64 pd]) rfl)
  clear H30
  have H38 := Lib.hid (bos_oth H31.out (show ∀ g o, a1 = some ⟨g, o, none⟩ → g ≠ (w.heap.size + 1 + 1) from fun g o e => by have := HG1.out g o e; have := HZ0.out; omega) 0 (.int .i64 a))
  clear H31
  have H39 := Lib.hid (ints_oth H32.out (show ∀ g o, v1 = some ⟨g, o, none⟩ → g ≠ (w.heap.size + 1 + 1) from fun g o e => by have := HK1.out g o e; have := HZ0.out; omega) 0 (.int .i64 a))
  clear H32
  have H40 := Lib.hid (Cs.other H34.out (show (u4.heap.size) ≠ (w.heap.size + 1 + 1) by have := HZ1.out; omega) 0 (.int .i64 a))
  clear H34
  have H41 := Lib.hid (H33.out.setCell (p := ⟨(w.heap.size + 1 + 1), 0, none⟩) (show w.heap.size ≤ (w.heap.size + 1 + 1) by omega) (.int .i64 a))
  clear H33
  have ne1 : ¬ (u4.heap.size) = w.heap.size + 1 + 1 := by have := HZ1.out; omega
  have ne2 : ¬ w.heap.size + 1 + 1 = (u4.heap.size) := by have := HZ1.out; omega
  go_wp2_with fail
  obtain ⟨W2, hW2⟩ : ∃ z, ((u4.alloc (.cells #[.int .i64 T1, .slice a1 A1.length c1, .int .i64 b, .slice v1 l.length d1, .int .i64 (dn + 1)] 30)).setCell ⟨(w.heap.size + 1 + 1), 0, none⟩ (.int .i64 a)) = z := ⟨_, rfl⟩
  rw [hW2]
  rw [hW2] at H35
  rw [hW2] at H36
  rw [hW2] at H37
  rw [hW2] at H38
  rw [hW2] at H39
  rw [hW2] at H40
  rw [hW2] at H41
  clear hW2 xpR10 xpR11 xpR12 xpR13 xpR14 zpR1 xpR0 xpR1 xpR2 xpR3 xpR4 zpR xpO0 xpO1 xpO2 xpO3 zpO xpP0 xpP1 xpP2 xpP3 zpP yP0 ne1 ne2
  have xR10 : W2.cell? ⟨(u4.heap.size), 0, none⟩ = some (.int .i64 T1) := H40.out.c 0 rfl
  have xR11 : W2.cell? ⟨(u4.heap.size), 1, none⟩ = some (.slice a1 A1.length c1) := H40.out.c 1 rfl
  have xR12 : W2.cell? ⟨(u4.heap.size), 2, none⟩ = some (.int .i64 b) := H40.out.c 2 rfl
  have xR13 : W2.cell? ⟨(u4.heap.size), 3, none⟩ = some (.slice v1 l.length d1) := H40.out.c 3 rfl
  have xR14 : W2.cell? ⟨(u4.heap.size), 4, none⟩ = some (.int .i64 (dn + 1)) := H40.out.c 4 rfl
  have zR1 : (u4.heap.size) < W2.heap.size := H40.out.2.2
  have xP0 : W2.cell? ⟨(w.heap.size + 1 + 1), 0, none⟩ = some (.int .i64 a) := H37.out.c 0 rfl
  have xP1 : W2.cell? ⟨(w.heap.size + 1 + 1), 1, none⟩ = some (.int .i64 pb) := H37.out.c 1 rfl
  have xP2 : W2.cell? ⟨(w.heap.size + 1 + 1), 2, none⟩ = some (.int .i64 pc) := H37.out.c 2 rfl
  have xP3 : W2.cell? ⟨(w.heap.size + 1 + 1), 3, none⟩ = some (.int .i64 pd) := H37.out.c 3 rfl
  have zP : (w.heap.size + 1 + 1) < W2.heap.size := H37.out.2.2
  refine (receive_is HRW2.out _ _ _ H38.out H39.out HAL.out (by rw [HVL.out]; exact HLN.out.2)).mono ?_
  rintro e u5 ⟨c2, d2, a2, v2, rfl, hq, hB, hI, b5, -, -⟩
  clear xR10 xR11 xR12 xR13 xR14 zR1 xP0 xP1 xP2 xP3 zP
  have H42 := Lib.hid (H35.out.step b5)
  clear H35
  have H43 := Lib.hid (H36.out.step b5)
  clear H36
  have H44 := Lib.hid (H37.out.step b5)
  clear H37
  have H45 := Lib.hid (H38.out.step b5)
  clear H38
  have H46 := Lib.hid (H39.out.step b5)
  clear H39
  have H47 := Lib.hid (H40.out.step b5)
  clear H40
  have H48 := Lib.hid (keep2 b5 H41.out)
  clear H41
  clear b5
  have H49 := Lib.hid (hB)
  have H50 := Lib.hid (hI)
  clear hB hI hq
  have H51 := Lib.hid (H42.out.step (al u5 (.cells #[.int .i64 T2, .slice a2 A2.length c2, .int .i64 F2, .slice v2 V1.length d2, .int .i64 D2] 30)))
  clear H42
  have H52 := Lib.hid (H43.out.step (al u5 (.cells #[.int .i64 T2, .slice a2 A2.length c2, .int .i64 F2, .slice v2 V1.length d2, .int .i64 D2] 30)))
  clear H43
  have H53 := Lib.hid (H44.out.step (al u5 (.cells #[.int .i64 T2, .slice a2 A2.length c2, .int .i64 F2, .slice v2 V1.length d2, .int .i64 D2] 30)))
  clear H44
  have H54 := Lib.hid (H45.out.step (al u5 (.cells #[.int .i64 T2, .slice a2 A2.length c2, .int .i64 F2, .slice v2 V1.length d2, .int .i64 D2] 30)))
  clear H45
  have H55 := Lib.hid (H46.out.step (al u5 (.cells #[.int .i64 T2, .slice a2 A2.length c2, .int .i64 F2, .slice v2 V1.length d2, .int .i64 D2] 30)))
  clear H46
  have H56 := Lib.hid (H47.out.step (al u5 (.cells #[.int .i64 T2, .slice a2 A2.length c2, .int .i64 F2, .slice v2 V1.length d2, .int .i64 D2] 30)))
  clear H47
  have H57 := Lib.hid (H49.out.step (al u5 (.cells #[.int .i64 T2, .slice a2 A2.length c2, .int .i64 F2, .slice v2 V1.length d2, .int .i64 D2] 30)))
  clear H49
  have H58 := Lib.hid (H50.out.step (al u5 (.cells #[.int .i64 T2, .slice a2 A2.length c2, .int .i64 F2, .slice v2 V1.length d2, .int .i64 D2] 30)))
  clear H50
  have H59 := Lib.hid (keep2 (al u5 (.cells #[.int .i64 T2, .slice a2 A2.length c2, .int .i64 F2, .slice v2 V1.length d2, .int .i64 D2] 30)) H48.out)
  clear H48
  have H60 := Lib.hid (Cs.new u5 (u5.heap.size) #[.int .i64 T2, .slice a2 A2.length c2, .int .i64 F2, .slice v2 V1.length d2, .int .i64 D2] 30 (by simp))
  have xR20 : (u5.alloc (.cells #[.int .i64 T2, .slice a2 A2.length c2, .int .i64 F2, .slice v2 V1.length d2, .int .i64 D2] 30)).cell? ⟨(u5.heap.size), 0, none⟩ = some (.int .i64 T2) := H60.out.c 0 rfl
  have xR21 : (u5.alloc (.cells #[.int .i64 T2, .slice a2 A2.length c2, .int .i64 F2, .slice v2 V1.length d2, .int .i64 D2] 30)).cell? ⟨(u5.heap.size), 1, none⟩ = some (.slice a2 A2.length c2) := H60.out.c 1 rfl
  have xR22 : (u5.alloc (.cells #[.int .i64 T2, .slice a2 A2.length c2, .int .i64 F2, .slice v2 V1.length d2, .int .i64 D2] 30)).cell? ⟨(u5.heap.size), 2, none⟩ = some (.int .i64 F2) := H60.out.c 2 rfl
  have xR23 : (u5.alloc (.cells #[.int .i64 T2, .slice a2 A2.length c2, .int .i64 F2, .slice v2 V1.length d2, .int .i64 D2] 30)).cell? ⟨(u5.heap.size), 3, none⟩ = some (.slice v2 V1.length d2) := H60.out.c 3 rfl
  have xR24 : (u5.alloc (.cells #[.int .i64 T2, .slice a2 A2.length c2, .int .i64 F2, .slice v2 V1.length d2, .int .i64 D2] 30)).cell? ⟨(u5.heap.size), 4, none⟩ = some (.int .i64 D2) := H60.out.c 4 rfl
  have zR2 : (u5.heap.size) < (u5.alloc (.cells #[.int .i64 T2, .slice a2 A2.length c2, .int .i64 F2, .slice v2 V1.length d2, .int .i64 D2] 30)).heap.size := H60.out.2.2
  have xR10 : (u5.alloc (.cells #[.int .i64 T2, .slice a2 A2.length c2, .int .i64 F2, .slice v2 V1.length d2, .int .i64 D2] 30)).cell? ⟨(u4.heap.size), 0, none⟩ = some (.int .i64 T1) := H56.out.c 0 rfl
  have xR11 : (u5.alloc (.cells #[.int .i64 T2, .slice a2 A2.length c2, .int .i64 F2, .slice v2 V1.length d2, .int .i64 D2] 30)).cell? ⟨(u4.heap.size), 1, none⟩ = some (.slice a1 A1.length c1) := H56.out.c 1 rfl
  have xR12 : (u5.alloc (.cells #[.int .i64 T2, .slice a2 A2.length c2, .int .i64 F2, .slice v2 V1.length d2, .int .i64 D2] 30)).cell? ⟨(u4.heap.size), 2, none⟩ = some (.int .i64 b) := H56.out.c 2 rfl
  have xR13 : (u5.alloc (.cells #[.int .i64 T2, .slice a2 A2.length c2, .int .i64 F2, .slice v2 V1.length d2, .int .i64 D2] 30)).cell? ⟨(u4.heap.size), 3, none⟩ = some (.slice v1 l.length d1) := H56.out.c 3 rfl
  have xR14 : (u5.alloc (.cells #[.int .i64 T2, .slice a2 A2.length c2, .int .i64 F2, .slice v2 V1.length d2, .int .i64 D2] 30)).cell? ⟨(u4.heap.size), 4, none⟩ = some (.int .i64 (dn + 1)) := H56.out.c 4 rfl
  have zR1 : (u4.heap.size) < (u5.alloc (.cells #[.int .i64 T2, .slice a2 A2.length c2, .int .i64 F2, .slice v2 V1.length d2, .int .i64 D2] 30)).heap.size := H56.out.2.2
  have xP0 : (u5.alloc (.cells #[.int .i64 T2, .slice a2 A2.length c2, .int .i64 F2, .slice v2 V1.length d2, .int .i64 D2] 30)).cell? ⟨(w.heap.size + 1 + 1), 0, none⟩ = some (.int .i64 a) := H53.out.c 0 rfl
  have xP1 : (u5.alloc (.cells #[.int .i64 T2, .slice a2 A2.length c2, .int .i64 F2, .slice v2 V1.length d2, .int .i64 D2] 30)).cell? ⟨(w.heap.size + 1 + 1), 1, none⟩ = some (.int .i64 pb) := H53.out.c 1 rfl
  have xP2 : (u5.alloc (.cells #[.int .i64 T2, .slice a2 A2.length c2, .int .i64 F2, .slice v2 V1.length d2, .int .i64 D2] 30)).cell? ⟨(w.heap.size + 1 + 1), 2, none⟩ = some (.int .i64 pc) := H53.out.c 2 rfl
  have xP3 : (u5.alloc (.cells #[.int .i64 T2, .slice a2 A2.length c2, .int .i64 F2, .slice v2 V1.length d2, .int .i64 D2] 30)).cell? ⟨(w.heap.size + 1 + 1), 3, none⟩ = some (.int .i64 pd) := H53.out.c 3 rfl
  have zP : (w.heap.size + 1 + 1) < (u5.alloc (.cells #[.int .i64 T2, .slice a2 A2.length c2, .int .i64 F2, .slice v2 V1.length d2, .int .i64 D2] 30)).heap.size := H53.out.2.2
  have xR0 : (u5.alloc (.cells #[.int .i64 T2, .slice a2 A2.length c2, .int .i64 F2, .slice v2 V1.length d2, .int .i64 D2] 30)).cell? ⟨(w.heap.size), 0, none⟩ = some (.int .i64 t) := H51.out.c 0 rfl
  have xR1 : (u5.alloc (.cells #[.int .i64 T2, .slice a2 A2.length c2, .int .i64 F2, .slice v2 V1.length d2, .int .i64 D2] 30)).cell? ⟨(w.heap.size), 1, none⟩ = some (.slice sa L.length sc) := H51.out.c 1 rfl
  have xR2 : (u5.alloc (.cells #[.int .i64 T2, .slice a2 A2.length c2, .int .i64 F2, .slice v2 V1.length d2, .int .i64 D2] 30)).cell? ⟨(w.heap.size), 2, none⟩ = some (.int .i64 f) := H51.out.c 2 rfl
  have xR3 : (u5.alloc (.cells #[.int .i64 T2, .slice a2 A2.length c2, .int .i64 F2, .slice v2 V1.length d2, .int .i64 D2] 30)).cell? ⟨(w.heap.size), 3, none⟩ = some (.slice va l.length vc) := H51.out.c 3 rfl
  have xR4 : (u5.alloc (.cells #[.int .i64 T2, .slice a2 A2.length c2, .int .i64 F2, .slice v2 V1.length d2, .int .i64 D2] 30)).cell? ⟨(w.heap.size), 4, none⟩ = some (.int .i64 dn) := H51.out.c 4 rfl
  have zR : (w.heap.size) < (u5.alloc (.cells #[.int .i64 T2, .slice a2 A2.length c2, .int .i64 F2, .slice v2 V1.length d2, .int .i64 D2] 30)).heap.size := H51.out.2.2
  have xO0 : (u5.alloc (.cells #[.int .i64 T2, .slice a2 A2.length c2, .int .i64 F2, .slice v2 V1.length d2, .int .i64 D2] 30)).cell? ⟨(w.heap.size + 1), 0, none⟩ = some (.int .i64 a) := H52.out.c 0 rfl
  have xO1 : (u5.alloc (.cells #[.int .i64 T2, .slice a2 A2.length c2, .int .i64 F2, .slice v2 V1.length d2, .int .i64 D2] 30)).cell? ⟨(w.heap.size + 1), 1, none⟩ = some (.int .i64 b) := H52.out.c 1 rfl
  have xO2 : (u5.alloc (.cells #[.int .i64 T2, .slice a2 A2.length c2, .int .i64 F2, .slice v2 V1.length d2, .int .i64 D2] 30)).cell? ⟨(w.heap.size + 1), 2, none⟩ = some (.int .i64 c) := H52.out.c 2 rfl
  have xO3 : (u5.alloc (.cells #[.int .i64 T2, .slice a2 A2.length c2, .int .i64 F2, .slice v2 V1.length d2, .int .i64 D2] 30)).cell? ⟨(w.heap.size + 1), 3, none⟩ = some (.int .i64 d) := H52.out.c 3 rfl
  have zO : (w.heap.size + 1) < (u5.alloc (.cells #[.int .i64 T2, .slice a2 A2.length c2, .int .i64 F2, .slice v2 V1.length d2, .int .i64 D2] 30)).heap.size := H52.out.2.2
  go_wp2_with fail
  refine (rorder_any a pb pc pd _ HOP.out _).mono ?_
  rintro e u6 ⟨rfl, b6⟩
  clear xR20 xR21 xR22 xR23 xR24 zR2 xR10 xR11 xR12 xR13 xR14 zR1 xP0 xP1 xP2 xP3 zP xR0 xR1 xR2 xR3 xR4 zR xO0 xO1 xO2 xO3 zO
  have H61 := Lib.hid (H51.out.step b6)
  clear H51
  have H62 := Lib.hid (H52.out.step b6)
  clear H52
  have H63 := Lib.hid (H53.out.step b6)
  clear H53
  have H64 := Lib.hid (H54.out.step b6)
  clear H54
  have H65 := Lib.hid (H55.out.step b6)
  clear H55
  have H66 := Lib.hid (H56.out.step b6)
  clear H56
  have H67 := Lib.hid (H57.out.step b6)
  clear H57
  have H68 := Lib.hid (H58.out.step b6)
  clear H58
  have H69 := Lib.hid (H60.out.step b6)
  clear H60
  have H70 := Lib.hid (keep2 b6 H59.out)
  clear H59
  clear b6
  have xR20 : u6.cell? ⟨(u5.heap.size), 0, none⟩ = some (.int .i64 T2) := H69.out.c 0 rfl
  have xR21 : u6.cell? ⟨(u5.heap.size), 1, none⟩ = some (.slice a2 A2.length c2) := H69.out.c 1 rfl
  have xR22 : u6.cell? ⟨(u5.heap.size), 2, none⟩ = some (.int .i64 F2) := H69.out.c 2 rfl
  have xR23 : u6.cell? ⟨(u5.heap.size), 3, none⟩ = some (.slice v2 V1.length d2) := H69.out.c 3 rfl
  have xR24 : u6.cell? ⟨(u5.heap.size), 4, none⟩ = some (.int .i64 D2) := H69.out.c 4 rfl
  have zR2 : (u5.heap.size) < u6.heap.size := H69.out.2.2
  have xR10 : u6.cell? ⟨(u4.heap.size), 0, none⟩ = some (.int .i64 T1) := H66.out.c 0 rfl
  have xR11 : u6.cell? ⟨(u4.heap.size), 1, none⟩ = some (.slice a1 A1.length c1) := H66.out.c 1 rfl
  have xR12 : u6.cell? ⟨(u4.heap.size), 2, none⟩ = some (.int .i64 b) := H66.out.c 2 rfl
  have xR13 : u6.cell? ⟨(u4.heap.size), 3, none⟩ = some (.slice v1 l.length d1) := H66.out.c 3 rfl
  have xR14 : u6.cell? ⟨(u4.heap.size), 4, none⟩ = some (.int .i64 (dn + 1)) := H66.out.c 4 rfl
  have zR1 : (u4.heap.size) < u6.heap.size := H66.out.2.2
  have xP0 : u6.cell? ⟨(w.heap.size + 1 + 1), 0, none⟩ = some (.int .i64 a) := H63.out.c 0 rfl
  have xP1 : u6.cell? ⟨(w.heap.size + 1 + 1), 1, none⟩ = some (.int .i64 pb) := H63.out.c 1 rfl
  have xP2 : u6.cell? ⟨(w.heap.size + 1 + 1), 2, none⟩ = some (.int .i64 pc) := H63.out.c 2 rfl
  have xP3 : u6.cell? ⟨(w.heap.size + 1 + 1), 3, none⟩ = some (.int .i64 pd) := H63.out.c 3 rfl
  have zP : (w.heap.size + 1 + 1) < u6.heap.size := H63.out.2.2
  have xR0 : u6.cell? ⟨(w.heap.size), 0, none⟩ = some (.int .i64 t) := H61.out.c 0 rfl
  have xR1 : u6.cell? ⟨(w.heap.size), 1, none⟩ = some (.slice sa L.length sc) := H61.out.c 1 rfl
  have xR2 : u6.cell? ⟨(w.heap.size), 2, none⟩ = some (.int .i64 f) := H61.out.c 2 rfl
  have xR3 : u6.cell? ⟨(w.heap.size), 3, none⟩ = some (.slice va l.length vc) := H61.out.c 3 rfl
  have xR4 : u6.cell? ⟨(w.heap.size), 4, none⟩ = some (.int .i64 dn) := H61.out.c 4 rfl
  have zR : (w.heap.size) < u6.heap.size := H61.out.2.2
  have xO0 : u6.cell? ⟨(w.heap.size + 1), 0, none⟩ = some (.int .i64 a) := H62.out.c 0 rfl
  have xO1 : u6.cell? ⟨(w.heap.size + 1), 1, none⟩ = some (.int .i64 b) := H62.out.c 1 rfl
  have xO2 : u6.cell? ⟨(w.heap.size + 1), 2, none⟩ = some (.int .i64 c) := H62.out.c 2 rfl
  have xO3 : u6.cell? ⟨(w.heap.size + 1), 3, none⟩ = some (.int .i64 d) := H62.out.c 3 rfl
  have zO : (w.heap.size + 1) < u6.heap.size := H62.out.2.2
  clear H69
  clear H67
  clear H68
  clear H63
  clear H64
  clear H65
  have HZ3 := Lib.hid (show (u4.heap.size) < u6.heap.size from H66.out.2.2)
  have HZ4 := Lib.hid (show w.heap.size + 1 < u6.heap.size from H62.out.2.2)
  have CS := Cs.new u6 u6.heap.size #[.int .i64 t, .slice sa L.length sc, .int .i64 f, .slice va l.length vc, .int .i64 dn] 30 (by simp)
  have xs0 : (u6.alloc (.cells #[.int .i64 t, .slice sa L.length sc, .int .i64 f, .slice va l.length vc, .int .i64 dn] 30)).cell? ⟨u6.heap.size, 0, none⟩ = some (.int .i64 t) := CS.c 0 rfl
  have ys0 : (u6.alloc (.cells #[.int .i64 t, .slice sa L.length sc, .int .i64 f, .slice va l.length vc, .int .i64 dn] 30)).frozen? ⟨u6.heap.size, 0, none⟩ = false := CS.f 0 (by simp)
  have xs1 : (u6.alloc (.cells #[.int .i64 t, .slice sa L.length sc, .int .i64 f, .slice va l.length vc, .int .i64 dn] 30)).cell? ⟨u6.heap.size, 1, none⟩ = some (.slice sa L.length sc) := CS.c 1 rfl
  have ys1 : (u6.alloc (.cells #[.int .i64 t, .slice sa L.length sc, .int .i64 f, .slice va l.length vc, .int .i64 dn] 30)).frozen? ⟨u6.heap.size, 1, none⟩ = false := CS.f 1 (by simp)
  have xs2 : (u6.alloc (.cells #[.int .i64 t, .slice sa L.length sc, .int .i64 f, .slice va l.length vc, .int .i64 dn] 30)).cell? ⟨u6.heap.size, 2, none⟩ = some (.int .i64 f) := CS.c 2 rfl
  have ys2 : (u6.alloc (.cells #[.int .i64 t, .slice sa L.length sc, .int .i64 f, .slice va l.length vc, .int .i64 dn] 30)).frozen? ⟨u6.heap.size, 2, none⟩ = false := CS.f 2 (by simp)
  have xs3 : (u6.alloc (.cells #[.int .i64 t, .slice sa L.length sc, .int .i64 f, .slice va l.length vc, .int .i64 dn] 30)).cell? ⟨u6.heap.size, 3, none⟩ = some (.slice va l.length vc) := CS.c 3 rfl
  have ys3 : (u6.alloc (.cells #[.int .i64 t, .slice sa L.length sc, .int .i64 f, .slice va l.length vc, .int .i64 dn] 30)).frozen? ⟨u6.heap.size, 3, none⟩ = false := CS.f 3 (by simp)
  have xs4 : (u6.alloc (.cells #[.int .i64 t, .slice sa L.length sc, .int .i64 f, .slice va l.length vc, .int .i64 dn] 30)).cell? ⟨u6.heap.size, 4, none⟩ = some (.int .i64 dn) := CS.c 4 rfl
  have ys4 : (u6.alloc (.cells #[.int .i64 t, .slice sa L.length sc, .int .i64 f, .slice va l.length vc, .int .i64 dn] 30)).frozen? ⟨u6.heap.size, 4, none⟩ = false := CS.f 4 (by simp)
  have zs : u6.heap.size < (u6.alloc (.cells #[.int .i64 t, .slice sa L.length sc, .int .i64 f, .slice va l.length vc, .int .i64 dn] 30)).heap.size := CS.2.2
  clear CS
  have xtO0 : (u6.alloc (.cells #[.int .i64 t, .slice sa L.length sc, .int .i64 f, .slice va l.length vc, .int .i64 dn] 30)).cell? ⟨(w.heap.size + 1), 0, none⟩ = some (.int .i64 a) := (H62.out.step (al u6 (.cells #[.int .i64 t, .slice sa L.length sc, .int .i64 f, .slice va l.length vc, .int .i64 dn] 30))).c 0 rfl
  have xtO1 : (u6.alloc (.cells #[.int .i64 t, .slice sa L.length sc, .int .i64 f, .slice va l.length vc, .int .i64 dn] 30)).cell? ⟨(w.heap.size + 1), 1, none⟩ = some (.int .i64 b) := (H62.out.step (al u6 (.cells #[.int .i64 t, .slice sa L.length sc, .int .i64 f, .slice va l.length vc, .int .i64 dn] 30))).c 1 rfl
  have xtO2 : (u6.alloc (.cells #[.int .i64 t, .slice sa L.length sc, .int .i64 f, .slice va l.length vc, .int .i64 dn] 30)).cell? ⟨(w.heap.size + 1), 2, none⟩ = some (.int .i64 c) := (H62.out.step (al u6 (.cells #[.int .i64 t, .slice sa L.length sc, .int .i64 f, .slice va l.length vc, .int .i64 dn] 30))).c 2 rfl
  have xtO3 : (u6.alloc (.cells #[.int .i64 t, .slice sa L.length sc, .int .i64 f, .slice va l.length vc, .int .i64 dn] 30)).cell? ⟨(w.heap.size + 1), 3, none⟩ = some (.int .i64 d) := (H62.out.step (al u6 (.cells #[.int .i64 t, .slice sa L.length sc, .int .i64 f, .slice va l.length vc, .int .i64 dn] 30))).c 3 rfl
  have ztO : (w.heap.size + 1) < (u6.alloc (.cells #[.int .i64 t, .slice sa L.length sc, .int .i64 f, .slice va l.length vc, .int .i64 dn] 30)).heap.size := (H62.out.step (al u6 (.cells #[.int .i64 t, .slice sa L.length sc, .int .i64 f, .slice va l.length vc, .int .i64 dn] 30))).2.2
  have xtR10 : (u6.alloc (.cells #[.int .i64 t, .slice sa L.length sc, .int .i64 f, .slice va l.length vc, .int .i64 dn] 30)).cell? ⟨(u4.heap.size), 0, none⟩ = some (.int .i64 T1) := (H66.out.step (al u6 (.cells #[.int .i64 t, .slice sa L.length sc, .int .i64 f, .slice va l.length vc, .int .i64 dn] 30))).c 0 rfl
  have xtR11 : (u6.alloc (.cells #[.int .i64 t, .slice sa L.length sc, .int .i64 f, .slice va l.length vc, .int .i64 dn] 30)).cell? ⟨(u4.heap.size), 1, none⟩ = some (.slice a1 A1.length c1) := (H66.out.step (al u6 (.cells #[.int .i64 t, .slice sa L.length sc, .int .i64 f, .slice va l.length vc, .int .i64 dn] 30))).c 1 rfl
  have xtR12 : (u6.alloc (.cells #[.int .i64 t, .slice sa L.length sc, .int .i64 f, .slice va l.length vc, .int .i64 dn] 30)).cell? ⟨(u4.heap.size), 2, none⟩ = some (.int .i64 b) := (H66.out.step (al u6 (.cells #[.int .i64 t, .slice sa L.length sc, .int .i64 f, .slice va l.length vc, .int .i64 dn] 30))).c 2 rfl
  have xtR13 : (u6.alloc (.cells #[.int .i64 t, .slice sa L.length sc, .int .i64 f, .slice va l.length vc, .int .i64 dn] 30)).cell? ⟨(u4.heap.size), 3, none⟩ = some (.slice v1 l.length d1) := (H66.out.step (al u6 (.cells #[.int .i64 t, .slice sa L.length sc, .int .i64 f, .slice va l.length vc, .int .i64 dn] 30))).c 3 rfl
  have xtR14 : (u6.alloc (.cells #[.int .i64 t, .slice sa L.length sc, .int .i64 f, .slice va l.length vc, .int .i64 dn] 30)).cell? ⟨(u4.heap.size), 4, none⟩ = some (.int .i64 (dn + 1)) := (H66.out.step (al u6 (.cells #[.int .i64 t, .slice sa L.length sc, .int .i64 f, .slice va l.length vc, .int .i64 dn] 30))).c 4 rfl
  have ztR1 : (u4.heap.size) < (u6.alloc (.cells #[.int .i64 t, .slice sa L.length sc, .int .i64 f, .slice va l.length vc, .int .i64 dn] 30)).heap.size := (H66.out.step (al u6 (.cells #[.int .i64 t, .slice sa L.length sc, .int .i64 f, .slice va l.length vc, .int .i64 dn] 30))).2.2
  have H71 := Lib.hid (H61.out.step (al u6 (.cells #[.int .i64 t, .slice sa L.length sc, .int .i64 (b + 1 + x), .slice va l.length vc, .int .i64 dn] 30)))
  clear H61
  have H72 := Lib.hid (H62.out.step (al u6 (.cells #[.int .i64 t, .slice sa L.length sc, .int .i64 (b + 1 + x), .slice va l.length vc, .int .i64 dn] 30)))
  clear H62
  have H73 := Lib.hid (H66.out.step (al u6 (.cells #[.int .i64 t, .slice sa L.length sc, .int .i64 (b + 1 + x), .slice va l.length vc, .int .i64 dn] 30)))
  clear H66
  have H74 := Lib.hid (keep2 (al u6 (.cells #[.int .i64 t, .slice sa L.length sc, .int .i64 (b + 1 + x), .slice va l.length vc, .int .i64 dn] 30)) H70.out)
  clear H70
  have H75 := Lib.hid (Cs.new u6 (u6.heap.size) #[.int .i64 t, .slice sa L.length sc, .int .i64 (b + 1 + x), .slice va l.length vc, .int .i64 dn] 30 (by simp))
  have w1 : wrap64 (b + 1) = b + 1 := IntWalk.wrap64_in _ (by have := (orB_iff HOB.out).2.1; omega)
  have w2 : wrap64 (b + 1 + x) = b + 1 + x := IntWalk.wrap64_in _ (by have := (orB_iff HOB.out).2.1; have := HX.out; omega)
  have w3 : wrap64 x = x := IntWalk.wrap64_in _ (by have := HX.out; omega)
  have m1 : decide (b + 1 + x > 1000000000) = false := by have := HFX.out; simp; omega
  have m2 : decide (1000000000 < b + 1 + x) = false := by have := HFX.out; simp; omega
  have xqS0 : (u6.alloc (.cells #[.int .i64 t, .slice sa L.length sc, .int .i64 (b + 1 + x), .slice va l.length vc, .int .i64 dn] 30)).cell? ⟨(u6.heap.size), 0, none⟩ = some (.int .i64 t) := H75.out.c 0 rfl
  have xqS1 : (u6.alloc (.cells #[.int .i64 t, .slice sa L.length sc, .int .i64 (b + 1 + x), .slice va l.length vc, .int .i64 dn] 30)).cell? ⟨(u6.heap.size), 1, none⟩ = some (.slice sa L.length sc) := H75.out.c 1 rfl
  have xqS2 : (u6.alloc (.cells #[.int .i64 t, .slice sa L.length sc, .int .i64 (b + 1 + x), .slice va l.length vc, .int .i64 dn] 30)).cell? ⟨(u6.heap.size), 2, none⟩ = some (.int .i64 (b + 1 + x)) := H75.out.c 2 rfl
  have xqS3 : (u6.alloc (.cells #[.int .i64 t, .slice sa L.length sc, .int .i64 (b + 1 + x), .slice va l.length vc, .int .i64 dn] 30)).cell? ⟨(u6.heap.size), 3, none⟩ = some (.slice va l.length vc) := H75.out.c 3 rfl
  have xqS4 : (u6.alloc (.cells #[.int .i64 t, .slice sa L.length sc, .int .i64 (b + 1 + x), .slice va l.length vc, .int .i64 dn] 30)).cell? ⟨(u6.heap.size), 4, none⟩ = some (.int .i64 dn) := H75.out.c 4 rfl
  have zqS : (u6.heap.size) < (u6.alloc (.cells #[.int .i64 t, .slice sa L.length sc, .int .i64 (b + 1 + x), .slice va l.length vc, .int .i64 dn] 30)).heap.size := H75.out.2.2
  have xqO0 : (u6.alloc (.cells #[.int .i64 t, .slice sa L.length sc, .int .i64 (b + 1 + x), .slice va l.length vc, .int .i64 dn] 30)).cell? ⟨(w.heap.size + 1), 0, none⟩ = some (.int .i64 a) := H72.out.c 0 rfl
  have xqO1 : (u6.alloc (.cells #[.int .i64 t, .slice sa L.length sc, .int .i64 (b + 1 + x), .slice va l.length vc, .int .i64 dn] 30)).cell? ⟨(w.heap.size + 1), 1, none⟩ = some (.int .i64 b) := H72.out.c 1 rfl
  have xqO2 : (u6.alloc (.cells #[.int .i64 t, .slice sa L.length sc, .int .i64 (b + 1 + x), .slice va l.length vc, .int .i64 dn] 30)).cell? ⟨(w.heap.size + 1), 2, none⟩ = some (.int .i64 c) := H72.out.c 2 rfl
  have xqO3 : (u6.alloc (.cells #[.int .i64 t, .slice sa L.length sc, .int .i64 (b + 1 + x), .slice va l.length vc, .int .i64 dn] 30)).cell? ⟨(w.heap.size + 1), 3, none⟩ = some (.int .i64 d) := H72.out.c 3 rfl
  have zqO : (w.heap.size + 1) < (u6.alloc (.cells #[.int .i64 t, .slice sa L.length sc, .int .i64 (b + 1 + x), .slice va l.length vc, .int .i64 dn] 30)).heap.size := H72.out.2.2
  have xqR10 : (u6.alloc (.cells #[.int .i64 t, .slice sa L.length sc, .int .i64 (b + 1 + x), .slice va l.length vc, .int .i64 dn] 30)).cell? ⟨(u4.heap.size), 0, none⟩ = some (.int .i64 T1) := H73.out.c 0 rfl
  have xqR11 : (u6.alloc (.cells #[.int .i64 t, .slice sa L.length sc, .int .i64 (b + 1 + x), .slice va l.length vc, .int .i64 dn] 30)).cell? ⟨(u4.heap.size), 1, none⟩ = some (.slice a1 A1.length c1) := H73.out.c 1 rfl
  have xqR12 : (u6.alloc (.cells #[.int .i64 t, .slice sa L.length sc, .int .i64 (b + 1 + x), .slice va l.length vc, .int .i64 dn] 30)).cell? ⟨(u4.heap.size), 2, none⟩ = some (.int .i64 b) := H73.out.c 2 rfl
  have xqR13 : (u6.alloc (.cells #[.int .i64 t, .slice sa L.length sc, .int .i64 (b + 1 + x), .slice va l.length vc, .int .i64 dn] 30)).cell? ⟨(u4.heap.size), 3, none⟩ = some (.slice v1 l.length d1) := H73.out.c 3 rfl
  have xqR14 : (u6.alloc (.cells #[.int .i64 t, .slice sa L.length sc, .int .i64 (b + 1 + x), .slice va l.length vc, .int .i64 dn] 30)).cell? ⟨(u4.heap.size), 4, none⟩ = some (.int .i64 (dn + 1)) := H73.out.c 4 rfl
  have zqR1 : (u4.heap.size) < (u6.alloc (.cells #[.int .i64 t, .slice sa L.length sc, .int .i64 (b + 1 + x), .slice va l.length vc, .int .i64 dn] 30)).heap.size := H73.out.2.2
  go_wp2_with fail
  obtain ⟨W3, hW3⟩ : ∃ z, (u6.alloc (.cells #[.int .i64 t, .slice sa L.length sc, .int .i64 (b + 1 + x), .slice va l.length vc, .int .i64 dn] 30)) = z := ⟨_, rfl⟩
  rw [hW3]
  rw [hW3] at H71
  rw [hW3] at H72
  rw [hW3] at H73
  rw [hW3] at H75
  rw [hW3] at H74
  clear hW3 xR20 xR21 xR22 xR23 xR24 zR2 xR10 xR11 xR12 xR13 xR14 zR1 xP0 xP1 xP2 xP3 zP xR0 xR1 xR2 xR3 xR4 zR xO0 xO1 xO2 xO3 zO xs0 ys0 xs1 ys1 xs2 ys2 xs3 ys3 xs4 ys4 zs xtO0 xtO1 xtO2 xtO3 ztO xtR10 xtR11 xtR12 xtR13 xtR14 ztR1 xqS0 xqS1 xqS2 xqS3 xqS4 zqS xqO0 xqO1 xqO2 xqO3 zqO xqR10 xqR11 xqR12 xqR13 xqR14 zqR1
  refine (receive_is HRW3.out _ _ _ (HS.out.step H74.out) (HV.out.step H74.out) HLN.out.1 HLN.out.2).mono ?_
  rintro e u7 ⟨c3, d3, a3, v3, rfl, hq, hB, hI, b7, -, -⟩
  have H76 := Lib.hid (H71.out.step b7)
  clear H71
  have H77 := Lib.hid (H72.out.step b7)
  clear H72
  have H78 := Lib.hid (H73.out.step b7)
  clear H73
  have H79 := Lib.hid (H75.out.step b7)
  clear H75
  have H80 := Lib.hid (keep2 b7 H74.out)
  clear H74
  clear b7
  have H81 := Lib.hid (hB)
  have H82 := Lib.hid (hI)
  clear hB hI hq
  have H83 := Lib.hid (H76.out.step (al u7 (.cells #[.int .i64 t, .slice a3 L.length c3, .int .i64 (b + 1 + x), .slice v3 l.length d3, .int .i64 dn] 30)))
  clear H76
  have H84 := Lib.hid (H77.out.step (al u7 (.cells #[.int .i64 t, .slice a3 L.length c3, .int .i64 (b + 1 + x), .slice v3 l.length d3, .int .i64 dn] 30)))
  clear H77
  have H85 := Lib.hid (H78.out.step (al u7 (.cells #[.int .i64 t, .slice a3 L.length c3, .int .i64 (b + 1 + x), .slice v3 l.length d3, .int .i64 dn] 30)))
  clear H78
  have H86 := Lib.hid (H79.out.step (al u7 (.cells #[.int .i64 t, .slice a3 L.length c3, .int .i64 (b + 1 + x), .slice v3 l.length d3, .int .i64 dn] 30)))
  clear H79
  have H87 := Lib.hid (H81.out.step (al u7 (.cells #[.int .i64 t, .slice a3 L.length c3, .int .i64 (b + 1 + x), .slice v3 l.length d3, .int .i64 dn] 30)))
  clear H81
  have H88 := Lib.hid (H82.out.step (al u7 (.cells #[.int .i64 t, .slice a3 L.length c3, .int .i64 (b + 1 + x), .slice v3 l.length d3, .int .i64 dn] 30)))
  clear H82
  have H89 := Lib.hid (keep2 (al u7 (.cells #[.int .i64 t, .slice a3 L.length c3, .int .i64 (b + 1 + x), .slice v3 l.length d3, .int .i64 dn] 30)) H80.out)
  clear H80
  have H90 := Lib.hid (Cs.new u7 (u7.heap.size) #[.int .i64 t, .slice a3 L.length c3, .int .i64 (b + 1 + x), .slice v3 l.length d3, .int .i64 dn] 30 (by simp))
  have xR30 : (u7.alloc (.cells #[.int .i64 t, .slice a3 L.length c3, .int .i64 (b + 1 + x), .slice v3 l.length d3, .int .i64 dn] 30)).cell? ⟨(u7.heap.size), 0, none⟩ = some (.int .i64 t) := H90.out.c 0 rfl
  have xR31 : (u7.alloc (.cells #[.int .i64 t, .slice a3 L.length c3, .int .i64 (b + 1 + x), .slice v3 l.length d3, .int .i64 dn] 30)).cell? ⟨(u7.heap.size), 1, none⟩ = some (.slice a3 L.length c3) := H90.out.c 1 rfl
  have xR32 : (u7.alloc (.cells #[.int .i64 t, .slice a3 L.length c3, .int .i64 (b + 1 + x), .slice v3 l.length d3, .int .i64 dn] 30)).cell? ⟨(u7.heap.size), 2, none⟩ = some (.int .i64 (b + 1 + x)) := H90.out.c 2 rfl
  have xR33 : (u7.alloc (.cells #[.int .i64 t, .slice a3 L.length c3, .int .i64 (b + 1 + x), .slice v3 l.length d3, .int .i64 dn] 30)).cell? ⟨(u7.heap.size), 3, none⟩ = some (.slice v3 l.length d3) := H90.out.c 3 rfl
  have xR34 : (u7.alloc (.cells #[.int .i64 t, .slice a3 L.length c3, .int .i64 (b + 1 + x), .slice v3 l.length d3, .int .i64 dn] 30)).cell? ⟨(u7.heap.size), 4, none⟩ = some (.int .i64 dn) := H90.out.c 4 rfl
  have zR3 : (u7.heap.size) < (u7.alloc (.cells #[.int .i64 t, .slice a3 L.length c3, .int .i64 (b + 1 + x), .slice v3 l.length d3, .int .i64 dn] 30)).heap.size := H90.out.2.2
  have xS0 : (u7.alloc (.cells #[.int .i64 t, .slice a3 L.length c3, .int .i64 (b + 1 + x), .slice v3 l.length d3, .int .i64 dn] 30)).cell? ⟨(u6.heap.size), 0, none⟩ = some (.int .i64 t) := H86.out.c 0 rfl
  have xS1 : (u7.alloc (.cells #[.int .i64 t, .slice a3 L.length c3, .int .i64 (b + 1 + x), .slice v3 l.length d3, .int .i64 dn] 30)).cell? ⟨(u6.heap.size), 1, none⟩ = some (.slice sa L.length sc) := H86.out.c 1 rfl
  have xS2 : (u7.alloc (.cells #[.int .i64 t, .slice a3 L.length c3, .int .i64 (b + 1 + x), .slice v3 l.length d3, .int .i64 dn] 30)).cell? ⟨(u6.heap.size), 2, none⟩ = some (.int .i64 (b + 1 + x)) := H86.out.c 2 rfl
  have xS3 : (u7.alloc (.cells #[.int .i64 t, .slice a3 L.length c3, .int .i64 (b + 1 + x), .slice v3 l.length d3, .int .i64 dn] 30)).cell? ⟨(u6.heap.size), 3, none⟩ = some (.slice va l.length vc) := H86.out.c 3 rfl
  have xS4 : (u7.alloc (.cells #[.int .i64 t, .slice a3 L.length c3, .int .i64 (b + 1 + x), .slice v3 l.length d3, .int .i64 dn] 30)).cell? ⟨(u6.heap.size), 4, none⟩ = some (.int .i64 dn) := H86.out.c 4 rfl
  have zS : (u6.heap.size) < (u7.alloc (.cells #[.int .i64 t, .slice a3 L.length c3, .int .i64 (b + 1 + x), .slice v3 l.length d3, .int .i64 dn] 30)).heap.size := H86.out.2.2
  have xR10 : (u7.alloc (.cells #[.int .i64 t, .slice a3 L.length c3, .int .i64 (b + 1 + x), .slice v3 l.length d3, .int .i64 dn] 30)).cell? ⟨(u4.heap.size), 0, none⟩ = some (.int .i64 T1) := H85.out.c 0 rfl
  have xR11 : (u7.alloc (.cells #[.int .i64 t, .slice a3 L.length c3, .int .i64 (b + 1 + x), .slice v3 l.length d3, .int .i64 dn] 30)).cell? ⟨(u4.heap.size), 1, none⟩ = some (.slice a1 A1.length c1) := H85.out.c 1 rfl
  have xR12 : (u7.alloc (.cells #[.int .i64 t, .slice a3 L.length c3, .int .i64 (b + 1 + x), .slice v3 l.length d3, .int .i64 dn] 30)).cell? ⟨(u4.heap.size), 2, none⟩ = some (.int .i64 b) := H85.out.c 2 rfl
  have xR13 : (u7.alloc (.cells #[.int .i64 t, .slice a3 L.length c3, .int .i64 (b + 1 + x), .slice v3 l.length d3, .int .i64 dn] 30)).cell? ⟨(u4.heap.size), 3, none⟩ = some (.slice v1 l.length d1) := H85.out.c 3 rfl
  have xR14 : (u7.alloc (.cells #[.int .i64 t, .slice a3 L.length c3, .int .i64 (b + 1 + x), .slice v3 l.length d3, .int .i64 dn] 30)).cell? ⟨(u4.heap.size), 4, none⟩ = some (.int .i64 (dn + 1)) := H85.out.c 4 rfl
  have zR1 : (u4.heap.size) < (u7.alloc (.cells #[.int .i64 t, .slice a3 L.length c3, .int .i64 (b + 1 + x), .slice v3 l.length d3, .int .i64 dn] 30)).heap.size := H85.out.2.2
  have xR0 : (u7.alloc (.cells #[.int .i64 t, .slice a3 L.length c3, .int .i64 (b + 1 + x), .slice v3 l.length d3, .int .i64 dn] 30)).cell? ⟨(w.heap.size), 0, none⟩ = some (.int .i64 t) := H83.out.c 0 rfl
  have xR1 : (u7.alloc (.cells #[.int .i64 t, .slice a3 L.length c3, .int .i64 (b + 1 + x), .slice v3 l.length d3, .int .i64 dn] 30)).cell? ⟨(w.heap.size), 1, none⟩ = some (.slice sa L.length sc) := H83.out.c 1 rfl
  have xR2 : (u7.alloc (.cells #[.int .i64 t, .slice a3 L.length c3, .int .i64 (b + 1 + x), .slice v3 l.length d3, .int .i64 dn] 30)).cell? ⟨(w.heap.size), 2, none⟩ = some (.int .i64 f) := H83.out.c 2 rfl
  have xR3 : (u7.alloc (.cells #[.int .i64 t, .slice a3 L.length c3, .int .i64 (b + 1 + x), .slice v3 l.length d3, .int .i64 dn] 30)).cell? ⟨(w.heap.size), 3, none⟩ = some (.slice va l.length vc) := H83.out.c 3 rfl
  have xR4 : (u7.alloc (.cells #[.int .i64 t, .slice a3 L.length c3, .int .i64 (b + 1 + x), .slice v3 l.length d3, .int .i64 dn] 30)).cell? ⟨(w.heap.size), 4, none⟩ = some (.int .i64 dn) := H83.out.c 4 rfl
  have zR : (w.heap.size) < (u7.alloc (.cells #[.int .i64 t, .slice a3 L.length c3, .int .i64 (b + 1 + x), .slice v3 l.length d3, .int .i64 dn] 30)).heap.size := H83.out.2.2
  go_wp2_with fail
  refine (samer_any t (b + 1 + x) dn L l l.length _ _ _ _ _ _ _ _ _ H87.out H88.out (HS.out.step H89.out) (HV.out.step H89.out)).mono ?_
  rintro e u8 ⟨rfl, b8⟩
  clear xR30 xR31 xR32 xR33 xR34 zR3 xS0 xS1 xS2 xS3 xS4 zS xR10 xR11 xR12 xR13 xR14 zR1 xR0 xR1 xR2 xR3 xR4 zR
  have H91 := Lib.hid (H83.out.step b8)
  clear H83
  have H92 := Lib.hid (H84.out.step b8)
  clear H84
  have H93 := Lib.hid (H85.out.step b8)
  clear H85
  have H94 := Lib.hid (H86.out.step b8)
  clear H86
  have H95 := Lib.hid (H87.out.step b8)
  clear H87
  have H96 := Lib.hid (H88.out.step b8)
  clear H88
  have H97 := Lib.hid (H90.out.step b8)
  clear H90
  have H98 := Lib.hid (keep2 b8 H89.out)
  clear H89
  clear b8
  have xR10 : u8.cell? ⟨(u4.heap.size), 0, none⟩ = some (.int .i64 T1) := H93.out.c 0 rfl
  have xR11 : u8.cell? ⟨(u4.heap.size), 1, none⟩ = some (.slice a1 A1.length c1) := H93.out.c 1 rfl
  have xR12 : u8.cell? ⟨(u4.heap.size), 2, none⟩ = some (.int .i64 b) := H93.out.c 2 rfl
  have xR13 : u8.cell? ⟨(u4.heap.size), 3, none⟩ = some (.slice v1 l.length d1) := H93.out.c 3 rfl
  have xR14 : u8.cell? ⟨(u4.heap.size), 4, none⟩ = some (.int .i64 (dn + 1)) := H93.out.c 4 rfl
  have zR1 : (u4.heap.size) < u8.heap.size := H93.out.2.2
  have xR0 : u8.cell? ⟨(w.heap.size), 0, none⟩ = some (.int .i64 t) := H91.out.c 0 rfl
  have xR1 : u8.cell? ⟨(w.heap.size), 1, none⟩ = some (.slice sa L.length sc) := H91.out.c 1 rfl
  have xR2 : u8.cell? ⟨(w.heap.size), 2, none⟩ = some (.int .i64 f) := H91.out.c 2 rfl
  have xR3 : u8.cell? ⟨(w.heap.size), 3, none⟩ = some (.slice va l.length vc) := H91.out.c 3 rfl
  have xR4 : u8.cell? ⟨(w.heap.size), 4, none⟩ = some (.int .i64 dn) := H91.out.c 4 rfl
  have zR : (w.heap.size) < u8.heap.size := H91.out.2.2
  have k1 : decide (b ≥ f) = true := by have := HBF.out; simp; omega
  have k2 : decide (f ≤ b) = true := by have := HBF.out; simp; omega
  go_wp2
  go_ret
  exact ⟨rfl, H98.out⟩
set_option maxRecDepth 100000 in
set_option maxHeartbeats 8000000 in
theorem known_did31 (t f dn a b c d pa pb pc pd x : Int) (T1 : Int) (A1 : List Bool) (V1 : List Int) (sa va : Option Addr) (sc vc : Nat) (L : List Bool) (l : List Int) (w : World) (hs : BosAt w (.slice sa L.length sc) L) (hc : L.length ≤ sc) (hv : IntsAt w (.slice va l.length vc) l) (hsm : (decide (0 ≤ 30) && (decide (l.length ≤ 30) && decide (L.length ≤ 30))) = true) (hwf : WF t L) (hrv : rvB f l dn = true) (hdn : ¬ 1000000 < dn) (hrw : RW t L f l dn a b c d T1 A1 b V1 (dn + 1) true 0) (hvl : V1.length = l.length) (hal : A1.length ≤ 100000) (hob : orB a b c d = true) (hbf : f ≤ b) (hx : 0 ≤ x ∧ x ≤ 65535) (hrw2 : RW T1 A1 b V1 (dn + 1) a pb pc pd T1 A1 b V1 (dn + 1) true 0) (hop : orB a pb pc pd = true) (hpc : pc < l.length) (hfx : 1000000000 < b + 1 + x) :
    Calls Try.prog 7 #[.agg #[.int .i64 t, .slice sa L.length sc, .int .i64 f, .slice va l.length vc, .int .i64 dn], .agg #[.int .i64 a, .int .i64 b, .int .i64 c, .int .i64 d], .agg #[.int .i64 pa, .int .i64 pb, .int .i64 pc, .int .i64 pd], .int .u16 x] w fun e w' => e = .returned (.bool true) ∧ Below w.heap.size w w' := by
  have HS := Lib.hid hs
  have HV := Lib.hid hv
  have HCP := Lib.hid hc
  clear hs hv hc
  have HSM := Lib.hid hsm
  clear hsm
  have HWF := Lib.hid hwf
  have HRV := Lib.hid hrv
  clear hwf hrv
  have g1 : decide (dn > 1000000) = false := by simp; omega
  have g2 : decide (1000000 < dn) = false := by simp; omega
  clear hdn
  have HLN := Lib.hid (show L.length ≤ 100000 ∧ l.length ≤ 100000 by have := HSM.out; simp at this; omega)
  have HRW := Lib.hid hrw
  have HVL := Lib.hid hvl
  have HAL := Lib.hid hal
  have HOB := Lib.hid hob
  have HBF := Lib.hid hbf
  have HX := Lib.hid hx
  have e1 : decide (dn + 1 = dn) = false := decide_eq_false (by omega)
  have e2 : (dn + 1 == dn) = false := beq_eq_false_iff_ne.2 (by omega)
  have HRW2 := Lib.hid hrw2
  have HOP := Lib.hid hop
  clear hrw hvl hal hob hbf hx hrw2 hop
  have HFX := Lib.hid hfx
  clear hfx
  have n1 : decide (pc < (l.length : Int)) = true := by simpa using hpc
  clear hpc
  have H0 := Lib.hid (Below.refl w.heap.size w)
  have H1 := Lib.hid (keep2 (al w (.cells #[.int .i64 t, .slice sa L.length sc, .int .i64 f, .slice va l.length vc, .int .i64 dn] 30)) H0.out)
  clear H0
  have H2 := Lib.hid (Cs.new w (w.heap.size) #[.int .i64 t, .slice sa L.length sc, .int .i64 f, .slice va l.length vc, .int .i64 dn] 30 (by simp))
  have H3 := Lib.hid (H2.out.step (al (w.alloc (.cells #[.int .i64 t, .slice sa L.length sc, .int .i64 f, .slice va l.length vc, .int .i64 dn] 30)) (.cells #[.int .i64 a, .int .i64 b, .int .i64 c, .int .i64 d] 32)))
  clear H2
  have H4 := Lib.hid (keep2 (al (w.alloc (.cells #[.int .i64 t, .slice sa L.length sc, .int .i64 f, .slice va l.length vc, .int .i64 dn] 30)) (.cells #[.int .i64 a, .int .i64 b, .int .i64 c, .int .i64 d] 32)) H1.out)
  clear H1
  have H5 := Lib.hid (Cs.new (w.alloc (.cells #[.int .i64 t, .slice sa L.length sc, .int .i64 f, .slice va l.length vc, .int .i64 dn] 30)) (w.heap.size + 1) #[.int .i64 a, .int .i64 b, .int .i64 c, .int .i64 d] 32 (by simp))
  have H6 := Lib.hid (H3.out.step (al ((w.alloc (.cells #[.int .i64 t, .slice sa L.length sc, .int .i64 f, .slice va l.length vc, .int .i64 dn] 30)).alloc (.cells #[.int .i64 a, .int .i64 b, .int .i64 c, .int .i64 d] 32)) (.cells #[.int .i64 pa, .int .i64 pb, .int .i64 pc, .int .i64 pd] 32)))
  clear H3
  have H7 := Lib.hid (H5.out.step (al ((w.alloc (.cells #[.int .i64 t, .slice sa L.length sc, .int .i64 f, .slice va l.length vc, .int .i64 dn] 30)).alloc (.cells #[.int .i64 a, .int .i64 b, .int .i64 c, .int .i64 d] 32)) (.cells #[.int .i64 pa, .int .i64 pb, .int .i64 pc, .int .i64 pd] 32)))
  clear H5
  have H8 := Lib.hid (keep2 (al ((w.alloc (.cells #[.int .i64 t, .slice sa L.length sc, .int .i64 f, .slice va l.length vc, .int .i64 dn] 30)).alloc (.cells #[.int .i64 a, .int .i64 b, .int .i64 c, .int .i64 d] 32)) (.cells #[.int .i64 pa, .int .i64 pb, .int .i64 pc, .int .i64 pd] 32)) H4.out)
  clear H4
  have H9 := Lib.hid (Cs.new ((w.alloc (.cells #[.int .i64 t, .slice sa L.length sc, .int .i64 f, .slice va l.length vc, .int .i64 dn] 30)).alloc (.cells #[.int .i64 a, .int .i64 b, .int .i64 c, .int .i64 d] 32)) (w.heap.size + 1 + 1) #[.int .i64 pa, .int .i64 pb, .int .i64 pc, .int .i64 pd] 32 (by simp))
  go_enter Try.func7, Try.ntmps7
  go_wp2_with fail
  refine (head_any _).mono ?_
  rintro e u1 ⟨rfl, b1⟩
  have H10 := Lib.hid (H6.out.step b1)
  clear H6
  have H11 := Lib.hid (H7.out.step b1)
  clear H7
  have H12 := Lib.hid (H9.out.step b1)
  clear H9
  have H13 := Lib.hid (keep2 b1 H8.out)
  clear H8
  clear b1
  have xR0 : u1.cell? ⟨(w.heap.size), 0, none⟩ = some (.int .i64 t) := H10.out.c 0 rfl
  have xR1 : u1.cell? ⟨(w.heap.size), 1, none⟩ = some (.slice sa L.length sc) := H10.out.c 1 rfl
  have xR2 : u1.cell? ⟨(w.heap.size), 2, none⟩ = some (.int .i64 f) := H10.out.c 2 rfl
  have xR3 : u1.cell? ⟨(w.heap.size), 3, none⟩ = some (.slice va l.length vc) := H10.out.c 3 rfl
  have xR4 : u1.cell? ⟨(w.heap.size), 4, none⟩ = some (.int .i64 dn) := H10.out.c 4 rfl
  have zR : (w.heap.size) < u1.heap.size := H10.out.2.2
  go_wp2_with fail
  refine (small_any 0 t f dn none sa va 0 L.length l.length 0 sc vc true HSM.out _).mono ?_
  rintro e u2 ⟨rfl, b2⟩
  clear xR0 xR1 xR2 xR3 xR4 zR
  have H14 := Lib.hid (H10.out.step b2)
  clear H10
  have H15 := Lib.hid (H11.out.step b2)
  clear H11
  have H16 := Lib.hid (H12.out.step b2)
  clear H12
  have H17 := Lib.hid (keep2 b2 H13.out)
  clear H13
  clear b2
  have xR0 : u2.cell? ⟨(w.heap.size), 0, none⟩ = some (.int .i64 t) := H14.out.c 0 rfl
  have xR1 : u2.cell? ⟨(w.heap.size), 1, none⟩ = some (.slice sa L.length sc) := H14.out.c 1 rfl
  have xR2 : u2.cell? ⟨(w.heap.size), 2, none⟩ = some (.int .i64 f) := H14.out.c 2 rfl
  have xR3 : u2.cell? ⟨(w.heap.size), 3, none⟩ = some (.slice va l.length vc) := H14.out.c 3 rfl
  have xR4 : u2.cell? ⟨(w.heap.size), 4, none⟩ = some (.int .i64 dn) := H14.out.c 4 rfl
  have zR : (w.heap.size) < u2.heap.size := H14.out.2.2
  go_wp2_with fail
  refine (rrecv_win t f dn sa va sc vc L l _ (HS.out.step H17.out) HCP.out (HV.out.step H17.out) HWF.out _ HRV.out).mono ?_
  rintro e u3 ⟨rfl, b3⟩
  clear xR0 xR1 xR2 xR3 xR4 zR
  have H18 := Lib.hid (H14.out.step b3)
  clear H14
  have H19 := Lib.hid (H15.out.step b3)
  clear H15
  have H20 := Lib.hid (H16.out.step b3)
  clear H16
  have H21 := Lib.hid (keep2 b3 H17.out)
  clear H17
  clear b3
  have xR0 : u3.cell? ⟨(w.heap.size), 0, none⟩ = some (.int .i64 t) := H18.out.c 0 rfl
  have xR1 : u3.cell? ⟨(w.heap.size), 1, none⟩ = some (.slice sa L.length sc) := H18.out.c 1 rfl
  have xR2 : u3.cell? ⟨(w.heap.size), 2, none⟩ = some (.int .i64 f) := H18.out.c 2 rfl
  have xR3 : u3.cell? ⟨(w.heap.size), 3, none⟩ = some (.slice va l.length vc) := H18.out.c 3 rfl
  have xR4 : u3.cell? ⟨(w.heap.size), 4, none⟩ = some (.int .i64 dn) := H18.out.c 4 rfl
  have zR : (w.heap.size) < u3.heap.size := H18.out.2.2
  have HZ0 := Lib.hid (show w.heap.size + 1 + 1 < u3.heap.size from H20.out.2.2)
  have xO0 : u3.cell? ⟨(w.heap.size + 1), 0, none⟩ = some (.int .i64 a) := H19.out.c 0 rfl
  have xO1 : u3.cell? ⟨(w.heap.size + 1), 1, none⟩ = some (.int .i64 b) := H19.out.c 1 rfl
  have xO2 : u3.cell? ⟨(w.heap.size + 1), 2, none⟩ = some (.int .i64 c) := H19.out.c 2 rfl
  have xO3 : u3.cell? ⟨(w.heap.size + 1), 3, none⟩ = some (.int .i64 d) := H19.out.c 3 rfl
  have zO : (w.heap.size + 1) < u3.heap.size := H19.out.2.2
  go_wp2_with fail
  refine (receive_is HRW.out _ _ _ (HS.out.step H21.out) (HV.out.step H21.out) HLN.out.1 HLN.out.2).mono ?_
  rintro e u4 ⟨c1, d1, a1, v1, rfl, hq, hB, hI, b4, hG, hK⟩
  clear xR0 xR1 xR2 xR3 xR4 zR xO0 xO1 xO2 xO3 zO
  have H22 := Lib.hid (H18.out.step b4)
  clear H18
  have H23 := Lib.hid (H19.out.step b4)
  clear H19
  have H24 := Lib.hid (H20.out.step b4)
  clear H20
  have H25 := Lib.hid (keep2 b4 H21.out)
  clear H21
  clear b4
  have H26 := Lib.hid (hB)
  have H27 := Lib.hid (hI)
  have HG1 := Lib.hid hG
  have HK1 := Lib.hid hK
  clear hB hI hG hK hq
  have HZ1 := Lib.hid (show w.heap.size + 1 + 1 < u4.heap.size from H24.out.2.2)
  have H28 := Lib.hid (H22.out.step (al u4 (.cells #[.int .i64 T1, .slice a1 A1.length c1, .int .i64 b, .slice v1 l.length d1, .int .i64 (dn + 1)] 30)))
  clear H22
  have H29 := Lib.hid (H23.out.step (al u4 (.cells #[.int .i64 T1, .slice a1 A1.length c1, .int .i64 b, .slice v1 l.length d1, .int .i64 (dn + 1)] 30)))
  clear H23
  have H30 := Lib.hid (H24.out.step (al u4 (.cells #[.int .i64 T1, .slice a1 A1.length c1, .int .i64 b, .slice v1 l.length d1, .int .i64 (dn + 1)] 30)))
  clear H24
  have H31 := Lib.hid (H26.out.step (al u4 (.cells #[.int .i64 T1, .slice a1 A1.length c1, .int .i64 b, .slice v1 l.length d1, .int .i64 (dn + 1)] 30)))
  clear H26
  have H32 := Lib.hid (H27.out.step (al u4 (.cells #[.int .i64 T1, .slice a1 A1.length c1, .int .i64 b, .slice v1 l.length d1, .int .i64 (dn + 1)] 30)))
  clear H27
  have H33 := Lib.hid (keep2 (al u4 (.cells #[.int .i64 T1, .slice a1 A1.length c1, .int .i64 b, .slice v1 l.length d1, .int .i64 (dn + 1)] 30)) H25.out)
  clear H25
  have H34 := Lib.hid (Cs.new u4 (u4.heap.size) #[.int .i64 T1, .slice a1 A1.length c1, .int .i64 b, .slice v1 l.length d1, .int .i64 (dn + 1)] 30 (by simp))
  have xpR10 : (u4.alloc (.cells #[.int .i64 T1, .slice a1 A1.length c1, .int .i64 b, .slice v1 l.length d1, .int .i64 (dn + 1)] 30)).cell? ⟨(u4.heap.size), 0, none⟩ = some (.int .i64 T1) := H34.out.c 0 rfl
  have xpR11 : (u4.alloc (.cells #[.int .i64 T1, .slice a1 A1.length c1, .int .i64 b, .slice v1 l.length d1, .int .i64 (dn + 1)] 30)).cell? ⟨(u4.heap.size), 1, none⟩ = some (.slice a1 A1.length c1) := H34.out.c 1 rfl
  have xpR12 : (u4.alloc (.cells #[.int .i64 T1, .slice a1 A1.length c1, .int .i64 b, .slice v1 l.length d1, .int .i64 (dn + 1)] 30)).cell? ⟨(u4.heap.size), 2, none⟩ = some (.int .i64 b) := H34.out.c 2 rfl
  have xpR13 : (u4.alloc (.cells #[.int .i64 T1, .slice a1 A1.length c1, .int .i64 b, .slice v1 l.length d1, .int .i64 (dn + 1)] 30)).cell? ⟨(u4.heap.size), 3, none⟩ = some (.slice v1 l.length d1) := H34.out.c 3 rfl
  have xpR14 : (u4.alloc (.cells #[.int .i64 T1, .slice a1 A1.length c1, .int .i64 b, .slice v1 l.length d1, .int .i64 (dn + 1)] 30)).cell? ⟨(u4.heap.size), 4, none⟩ = some (.int .i64 (dn + 1)) := H34.out.c 4 rfl
  have zpR1 : (u4.heap.size) < (u4.alloc (.cells #[.int .i64 T1, .slice a1 A1.length c1, .int .i64 b, .slice v1 l.length d1, .int .i64 (dn + 1)] 30)).heap.size := H34.out.2.2
  have xpR0 : (u4.alloc (.cells #[.int .i64 T1, .slice a1 A1.length c1, .int .i64 b, .slice v1 l.length d1, .int .i64 (dn + 1)] 30)).cell? ⟨(w.heap.size), 0, none⟩ = some (.int .i64 t) := H28.out.c 0 rfl
  have xpR1 : (u4.alloc (.cells #[.int .i64 T1, .slice a1 A1.length c1, .int .i64 b, .slice v1 l.length d1, .int .i64 (dn + 1)] 30)).cell? ⟨(w.heap.size), 1, none⟩ = some (.slice sa L.length sc) := H28.out.c 1 rfl
  have xpR2 : (u4.alloc (.cells #[.int .i64 T1, .slice a1 A1.length c1, .int .i64 b, .slice v1 l.length d1, .int .i64 (dn + 1)] 30)).cell? ⟨(w.heap.size), 2, none⟩ = some (.int .i64 f) := H28.out.c 2 rfl
  have xpR3 : (u4.alloc (.cells #[.int .i64 T1, .slice a1 A1.length c1, .int .i64 b, .slice v1 l.length d1, .int .i64 (dn + 1)] 30)).cell? ⟨(w.heap.size), 3, none⟩ = some (.slice va l.length vc) := H28.out.c 3 rfl
  have xpR4 : (u4.alloc (.cells #[.int .i64 T1, .slice a1 A1.length c1, .int .i64 b, .slice v1 l.length d1, .int .i64 (dn + 1)] 30)).cell? ⟨(w.heap.size), 4, none⟩ = some (.int .i64 dn) := H28.out.c 4 rfl
  have zpR : (w.heap.size) < (u4.alloc (.cells #[.int .i64 T1, .slice a1 A1.length c1, .int .i64 b, .slice v1 l.length d1, .int .i64 (dn + 1)] 30)).heap.size := H28.out.2.2
  have xpO0 : (u4.alloc (.cells #[.int .i64 T1, .slice a1 A1.length c1, .int .i64 b, .slice v1 l.length d1, .int .i64 (dn + 1)] 30)).cell? ⟨(w.heap.size + 1), 0, none⟩ = some (.int .i64 a) := H29.out.c 0 rfl
  have xpO1 : (u4.alloc (.cells #[.int .i64 T1, .slice a1 A1.length c1, .int .i64 b, .slice v1 l.length d1, .int .i64 (dn + 1)] 30)).cell? ⟨(w.heap.size + 1), 1, none⟩ = some (.int .i64 b) := H29.out.c 1 rfl
  have xpO2 : (u4.alloc (.cells #[.int .i64 T1, .slice a1 A1.length c1, .int .i64 b, .slice v1 l.length d1, .int .i64 (dn + 1)] 30)).cell? ⟨(w.heap.size + 1), 2, none⟩ = some (.int .i64 c) := H29.out.c 2 rfl
  have xpO3 : (u4.alloc (.cells #[.int .i64 T1, .slice a1 A1.length c1, .int .i64 b, .slice v1 l.length d1, .int .i64 (dn + 1)] 30)).cell? ⟨(w.heap.size + 1), 3, none⟩ = some (.int .i64 d) := H29.out.c 3 rfl
  have zpO : (w.heap.size + 1) < (u4.alloc (.cells #[.int .i64 T1, .slice a1 A1.length c1, .int .i64 b, .slice v1 l.length d1, .int .i64 (dn + 1)] 30)).heap.size := H29.out.2.2
  have xpP0 : (u4.alloc (.cells #[.int .i64 T1, .slice a1 A1.length c1, .int .i64 b, .slice v1 l.length d1, .int .i64 (dn + 1)] 30)).cell? ⟨(w.heap.size + 1 + 1), 0, none⟩ = some (.int .i64 pa) := H30.out.c 0 rfl
  have xpP1 : (u4.alloc (.cells #[.int .i64 T1, .slice a1 A1.length c1, .int .i64 b, .slice v1 l.length d1, .int .i64 (dn + 1)] 30)).cell? ⟨(w.heap.size + 1 + 1), 1, none⟩ = some (.int .i64 pb) := H30.out.c 1 rfl
  have xpP2 : (u4.alloc (.cells #[.int .i64 T1, .slice a1 A1.length c1, .int .i64 b, .slice v1 l.length d1, .int .i64 (dn + 1)] 30)).cell? ⟨(w.heap.size + 1 + 1), 2, none⟩ = some (.int .i64 pc) := H30.out.c 2 rfl
  have xpP3 : (u4.alloc (.cells #[.int .i64 T1, .slice a1 A1.length c1, .int .i64 b, .slice v1 l.length d1, .int .i64 (dn + 1)] 30)).cell? ⟨(w.heap.size + 1 + 1), 3, none⟩ = some (.int .i64 pd) := H30.out.c 3 rfl
  have zpP : (w.heap.size + 1 + 1) < (u4.alloc (.cells #[.int .i64 T1, .slice a1 A1.length c1, .int .i64 b, .slice v1 l.length d1, .int .i64 (dn + 1)] 30)).heap.size := H30.out.2.2
  have yP0 : (u4.alloc (.cells #[.int .i64 T1, .slice a1 A1.length c1, .int .i64 b, .slice v1 l.length d1, .int .i64 (dn + 1)] 30)).frozen? ⟨(w.heap.size + 1 + 1), 0, none⟩ = false := H30.out.f 0 (by simp)
  have H35 := Lib.hid (Cs.other H28.out (show (w.heap.size) ≠ (w.heap.size + 1 + 1) by omega) 0 (.int .i64 a))
  clear H28
  have H36 := Lib.hid (Cs.other H29.out (show (w.heap.size + 1) ≠ (w.heap.size + 1 + 1) by omega) 0 (.int .i64 a))
  clear H29
  have H37 := Lib.hid (Cs.set H30.out 0 (by simp) (.int .i64 a) (vs' := #[.int .i64 a, .int .i64 pb, .int .i64 pc, .int .i64 pd]) rfl)
  clear H30
  have H38 := Lib.hid (bos_oth H31.out (show ∀ g o, a1 = some ⟨g, o, none⟩ → g ≠ (w.heap.size + 1 + 1) from fun g o e => by have := HG1.out g o e; have := HZ0.out; omega) 0 (.int .i64 a))
  clear H31
  have H39 := Lib.hid (ints_oth H32.out (show ∀ g o, v1 = some ⟨g, o, none⟩ → g ≠ (w.heap.size + 1 + 1) from fun g o e => by have := HK1.out g o e; have := HZ0.out; omega) 0 (.int .i64 a))
  clear H32
  have H40 := Lib.hid (Cs.other H34.out (show (u4.heap.size) ≠ (w.heap.size + 1 + 1) by have := HZ1.out; omega) 0 (.int .i64 a))
  clear H34
  have H41 := Lib.hid (H33.out.setCell (p := ⟨(w.heap.size + 1 + 1), 0, none⟩) (show w.heap.size ≤ (w.heap.size + 1 + 1) by omega) (.int .i64 a))
  clear H33
  have ne1 : ¬ (u4.heap.size) = w.heap.size + 1 + 1 := by have := HZ1.out; omega
  have ne2 : ¬ w.heap.size + 1 + 1 = (u4.heap.size) := by have := HZ1.out; omega
  go_wp2_with fail
  obtain ⟨W2, hW2⟩ : ∃ z, ((u4.alloc (.cells #[.int .i64 T1, .slice a1 A1.length c1, .int .i64 b, .slice v1 l.length d1, .int .i64 (dn + 1)] 30)).setCell ⟨(w.heap.size + 1 + 1), 0, none⟩ (.int .i64 a)) = z := ⟨_, rfl⟩
  rw [hW2]
  rw [hW2] at H35
  rw [hW2] at H36
  rw [hW2] at H37
  rw [hW2] at H38
  rw [hW2] at H39
  rw [hW2] at H40
  rw [hW2] at H41
  clear hW2 xpR10 xpR11 xpR12 xpR13 xpR14 zpR1 xpR0 xpR1 xpR2 xpR3 xpR4 zpR xpO0 xpO1 xpO2 xpO3 zpO xpP0 xpP1 xpP2 xpP3 zpP yP0 ne1 ne2
  have xR10 : W2.cell? ⟨(u4.heap.size), 0, none⟩ = some (.int .i64 T1) := H40.out.c 0 rfl
  have xR11 : W2.cell? ⟨(u4.heap.size), 1, none⟩ = some (.slice a1 A1.length c1) := H40.out.c 1 rfl
  have xR12 : W2.cell? ⟨(u4.heap.size), 2, none⟩ = some (.int .i64 b) := H40.out.c 2 rfl
  have xR13 : W2.cell? ⟨(u4.heap.size), 3, none⟩ = some (.slice v1 l.length d1) := H40.out.c 3 rfl
  have xR14 : W2.cell? ⟨(u4.heap.size), 4, none⟩ = some (.int .i64 (dn + 1)) := H40.out.c 4 rfl
  have zR1 : (u4.heap.size) < W2.heap.size := H40.out.2.2
  have xP0 : W2.cell? ⟨(w.heap.size + 1 + 1), 0, none⟩ = some (.int .i64 a) := H37.out.c 0 rfl
  have xP1 : W2.cell? ⟨(w.heap.size + 1 + 1), 1, none⟩ = some (.int .i64 pb) := H37.out.c 1 rfl
  have xP2 : W2.cell? ⟨(w.heap.size + 1 + 1), 2, none⟩ = some (.int .i64 pc) := H37.out.c 2 rfl
  have xP3 : W2.cell? ⟨(w.heap.size + 1 + 1), 3, none⟩ = some (.int .i64 pd) := H37.out.c 3 rfl
  have zP : (w.heap.size + 1 + 1) < W2.heap.size := H37.out.2.2
  refine (receive_is HRW2.out _ _ _ H38.out H39.out HAL.out (by rw [HVL.out]; exact HLN.out.2)).mono ?_
  rintro e u5 ⟨c2, d2, a2, v2, rfl, hq, hB, hI, b5, -, -⟩
  clear xR10 xR11 xR12 xR13 xR14 zR1 xP0 xP1 xP2 xP3 zP
  have H42 := Lib.hid (H35.out.step b5)
  clear H35
  have H43 := Lib.hid (H36.out.step b5)
  clear H36
  have H44 := Lib.hid (H37.out.step b5)
  clear H37
  have H45 := Lib.hid (H38.out.step b5)
  clear H38
  have H46 := Lib.hid (H39.out.step b5)
  clear H39
  have H47 := Lib.hid (H40.out.step b5)
  clear H40
  have H48 := Lib.hid (keep2 b5 H41.out)
  clear H41
  clear b5
  have H49 := Lib.hid (hB)
  have H50 := Lib.hid (hI)
  clear hB hI hq
  have H51 := Lib.hid (H42.out.step (al u5 (.cells #[.int .i64 T1, .slice a2 A1.length c2, .int .i64 b, .slice v2 V1.length d2, .int .i64 (dn + 1)] 30)))
  clear H42
  have H52 := Lib.hid (H43.out.step (al u5 (.cells #[.int .i64 T1, .slice a2 A1.length c2, .int .i64 b, .slice v2 V1.length d2, .int .i64 (dn + 1)] 30)))
  clear H43
  have H53 := Lib.hid (H44.out.step (al u5 (.cells #[.int .i64 T1, .slice a2 A1.length c2, .int .i64 b, .slice v2 V1.length d2, .int .i64 (dn + 1)] 30)))
  clear H44
  have H54 := Lib.hid (H45.out.step (al u5 (.cells #[.int .i64 T1, .slice a2 A1.length c2, .int .i64 b, .slice v2 V1.length d2, .int .i64 (dn + 1)] 30)))
  clear H45
  have H55 := Lib.hid (H46.out.step (al u5 (.cells #[.int .i64 T1, .slice a2 A1.length c2, .int .i64 b, .slice v2 V1.length d2, .int .i64 (dn + 1)] 30)))
  clear H46
  have H56 := Lib.hid (H47.out.step (al u5 (.cells #[.int .i64 T1, .slice a2 A1.length c2, .int .i64 b, .slice v2 V1.length d2, .int .i64 (dn + 1)] 30)))
  clear H47
  have H57 := Lib.hid (H49.out.step (al u5 (.cells #[.int .i64 T1, .slice a2 A1.length c2, .int .i64 b, .slice v2 V1.length d2, .int .i64 (dn + 1)] 30)))
  clear H49
  have H58 := Lib.hid (H50.out.step (al u5 (.cells #[.int .i64 T1, .slice a2 A1.length c2, .int .i64 b, .slice v2 V1.length d2, .int .i64 (dn + 1)] 30)))
  clear H50
  have H59 := Lib.hid (keep2 (al u5 (.cells #[.int .i64 T1, .slice a2 A1.length c2, .int .i64 b, .slice v2 V1.length d2, .int .i64 (dn + 1)] 30)) H48.out)
  clear H48
  have H60 := Lib.hid (Cs.new u5 (u5.heap.size) #[.int .i64 T1, .slice a2 A1.length c2, .int .i64 b, .slice v2 V1.length d2, .int .i64 (dn + 1)] 30 (by simp))
  have xR20 : (u5.alloc (.cells #[.int .i64 T1, .slice a2 A1.length c2, .int .i64 b, .slice v2 V1.length d2, .int .i64 (dn + 1)] 30)).cell? ⟨(u5.heap.size), 0, none⟩ = some (.int .i64 T1) := H60.out.c 0 rfl
  have xR21 : (u5.alloc (.cells #[.int .i64 T1, .slice a2 A1.length c2, .int .i64 b, .slice v2 V1.length d2, .int .i64 (dn + 1)] 30)).cell? ⟨(u5.heap.size), 1, none⟩ = some (.slice a2 A1.length c2) := H60.out.c 1 rfl
  have xR22 : (u5.alloc (.cells #[.int .i64 T1, .slice a2 A1.length c2, .int .i64 b, .slice v2 V1.length d2, .int .i64 (dn + 1)] 30)).cell? ⟨(u5.heap.size), 2, none⟩ = some (.int .i64 b) := H60.out.c 2 rfl
  have xR23 : (u5.alloc (.cells #[.int .i64 T1, .slice a2 A1.length c2, .int .i64 b, .slice v2 V1.length d2, .int .i64 (dn + 1)] 30)).cell? ⟨(u5.heap.size), 3, none⟩ = some (.slice v2 V1.length d2) := H60.out.c 3 rfl
  have xR24 : (u5.alloc (.cells #[.int .i64 T1, .slice a2 A1.length c2, .int .i64 b, .slice v2 V1.length d2, .int .i64 (dn + 1)] 30)).cell? ⟨(u5.heap.size), 4, none⟩ = some (.int .i64 (dn + 1)) := H60.out.c 4 rfl
  have zR2 : (u5.heap.size) < (u5.alloc (.cells #[.int .i64 T1, .slice a2 A1.length c2, .int .i64 b, .slice v2 V1.length d2, .int .i64 (dn + 1)] 30)).heap.size := H60.out.2.2
  have xR10 : (u5.alloc (.cells #[.int .i64 T1, .slice a2 A1.length c2, .int .i64 b, .slice v2 V1.length d2, .int .i64 (dn + 1)] 30)).cell? ⟨(u4.heap.size), 0, none⟩ = some (.int .i64 T1) := H56.out.c 0 rfl
  have xR11 : (u5.alloc (.cells #[.int .i64 T1, .slice a2 A1.length c2, .int .i64 b, .slice v2 V1.length d2, .int .i64 (dn + 1)] 30)).cell? ⟨(u4.heap.size), 1, none⟩ = some (.slice a1 A1.length c1) := H56.out.c 1 rfl
  have xR12 : (u5.alloc (.cells #[.int .i64 T1, .slice a2 A1.length c2, .int .i64 b, .slice v2 V1.length d2, .int .i64 (dn + 1)] 30)).cell? ⟨(u4.heap.size), 2, none⟩ = some (.int .i64 b) := H56.out.c 2 rfl
  have xR13 : (u5.alloc (.cells #[.int .i64 T1, .slice a2 A1.length c2, .int .i64 b, .slice v2 V1.length d2, .int .i64 (dn + 1)] 30)).cell? ⟨(u4.heap.size), 3, none⟩ = some (.slice v1 l.length d1) := H56.out.c 3 rfl
  have xR14 : (u5.alloc (.cells #[.int .i64 T1, .slice a2 A1.length c2, .int .i64 b, .slice v2 V1.length d2, .int .i64 (dn + 1)] 30)).cell? ⟨(u4.heap.size), 4, none⟩ = some (.int .i64 (dn + 1)) := H56.out.c 4 rfl
  have zR1 : (u4.heap.size) < (u5.alloc (.cells #[.int .i64 T1, .slice a2 A1.length c2, .int .i64 b, .slice v2 V1.length d2, .int .i64 (dn + 1)] 30)).heap.size := H56.out.2.2
  have xP0 : (u5.alloc (.cells #[.int .i64 T1, .slice a2 A1.length c2, .int .i64 b, .slice v2 V1.length d2, .int .i64 (dn + 1)] 30)).cell? ⟨(w.heap.size + 1 + 1), 0, none⟩ = some (.int .i64 a) := H53.out.c 0 rfl
  have xP1 : (u5.alloc (.cells #[.int .i64 T1, .slice a2 A1.length c2, .int .i64 b, .slice v2 V1.length d2, .int .i64 (dn + 1)] 30)).cell? ⟨(w.heap.size + 1 + 1), 1, none⟩ = some (.int .i64 pb) := H53.out.c 1 rfl
  have xP2 : (u5.alloc (.cells #[.int .i64 T1, .slice a2 A1.length c2, .int .i64 b, .slice v2 V1.length d2, .int .i64 (dn + 1)] 30)).cell? ⟨(w.heap.size + 1 + 1), 2, none⟩ = some (.int .i64 pc) := H53.out.c 2 rfl
  have xP3 : (u5.alloc (.cells #[.int .i64 T1, .slice a2 A1.length c2, .int .i64 b, .slice v2 V1.length d2, .int .i64 (dn + 1)] 30)).cell? ⟨(w.heap.size + 1 + 1), 3, none⟩ = some (.int .i64 pd) := H53.out.c 3 rfl
  have zP : (w.heap.size + 1 + 1) < (u5.alloc (.cells #[.int .i64 T1, .slice a2 A1.length c2, .int .i64 b, .slice v2 V1.length d2, .int .i64 (dn + 1)] 30)).heap.size := H53.out.2.2
  have xR0 : (u5.alloc (.cells #[.int .i64 T1, .slice a2 A1.length c2, .int .i64 b, .slice v2 V1.length d2, .int .i64 (dn + 1)] 30)).cell? ⟨(w.heap.size), 0, none⟩ = some (.int .i64 t) := H51.out.c 0 rfl
  have xR1 : (u5.alloc (.cells #[.int .i64 T1, .slice a2 A1.length c2, .int .i64 b, .slice v2 V1.length d2, .int .i64 (dn + 1)] 30)).cell? ⟨(w.heap.size), 1, none⟩ = some (.slice sa L.length sc) := H51.out.c 1 rfl
  have xR2 : (u5.alloc (.cells #[.int .i64 T1, .slice a2 A1.length c2, .int .i64 b, .slice v2 V1.length d2, .int .i64 (dn + 1)] 30)).cell? ⟨(w.heap.size), 2, none⟩ = some (.int .i64 f) := H51.out.c 2 rfl
  have xR3 : (u5.alloc (.cells #[.int .i64 T1, .slice a2 A1.length c2, .int .i64 b, .slice v2 V1.length d2, .int .i64 (dn + 1)] 30)).cell? ⟨(w.heap.size), 3, none⟩ = some (.slice va l.length vc) := H51.out.c 3 rfl
  have xR4 : (u5.alloc (.cells #[.int .i64 T1, .slice a2 A1.length c2, .int .i64 b, .slice v2 V1.length d2, .int .i64 (dn + 1)] 30)).cell? ⟨(w.heap.size), 4, none⟩ = some (.int .i64 dn) := H51.out.c 4 rfl
  have zR : (w.heap.size) < (u5.alloc (.cells #[.int .i64 T1, .slice a2 A1.length c2, .int .i64 b, .slice v2 V1.length d2, .int .i64 (dn + 1)] 30)).heap.size := H51.out.2.2
  have xO0 : (u5.alloc (.cells #[.int .i64 T1, .slice a2 A1.length c2, .int .i64 b, .slice v2 V1.length d2, .int .i64 (dn + 1)] 30)).cell? ⟨(w.heap.size + 1), 0, none⟩ = some (.int .i64 a) := H52.out.c 0 rfl
  have xO1 : (u5.alloc (.cells #[.int .i64 T1, .slice a2 A1.length c2, .int .i64 b, .slice v2 V1.length d2, .int .i64 (dn + 1)] 30)).cell? ⟨(w.heap.size + 1), 1, none⟩ = some (.int .i64 b) := H52.out.c 1 rfl
  have xO2 : (u5.alloc (.cells #[.int .i64 T1, .slice a2 A1.length c2, .int .i64 b, .slice v2 V1.length d2, .int .i64 (dn + 1)] 30)).cell? ⟨(w.heap.size + 1), 2, none⟩ = some (.int .i64 c) := H52.out.c 2 rfl
  have xO3 : (u5.alloc (.cells #[.int .i64 T1, .slice a2 A1.length c2, .int .i64 b, .slice v2 V1.length d2, .int .i64 (dn + 1)] 30)).cell? ⟨(w.heap.size + 1), 3, none⟩ = some (.int .i64 d) := H52.out.c 3 rfl
  have zO : (w.heap.size + 1) < (u5.alloc (.cells #[.int .i64 T1, .slice a2 A1.length c2, .int .i64 b, .slice v2 V1.length d2, .int .i64 (dn + 1)] 30)).heap.size := H52.out.2.2
  go_wp2_with fail
  refine (rorder_any a pb pc pd _ HOP.out _).mono ?_
  rintro e u6 ⟨rfl, b6⟩
  clear xR20 xR21 xR22 xR23 xR24 zR2 xR10 xR11 xR12 xR13 xR14 zR1 xP0 xP1 xP2 xP3 zP xR0 xR1 xR2 xR3 xR4 zR xO0 xO1 xO2 xO3 zO
  have H61 := Lib.hid (H51.out.step b6)
  clear H51
  have H62 := Lib.hid (H52.out.step b6)
  clear H52
  have H63 := Lib.hid (H53.out.step b6)
  clear H53
  have H64 := Lib.hid (H54.out.step b6)
  clear H54
  have H65 := Lib.hid (H55.out.step b6)
  clear H55
  have H66 := Lib.hid (H56.out.step b6)
  clear H56
  have H67 := Lib.hid (H57.out.step b6)
  clear H57
  have H68 := Lib.hid (H58.out.step b6)
  clear H58
  have H69 := Lib.hid (H60.out.step b6)
  clear H60
  have H70 := Lib.hid (keep2 b6 H59.out)
  clear H59
  clear b6
  have xR20 : u6.cell? ⟨(u5.heap.size), 0, none⟩ = some (.int .i64 T1) := H69.out.c 0 rfl
  have xR21 : u6.cell? ⟨(u5.heap.size), 1, none⟩ = some (.slice a2 A1.length c2) := H69.out.c 1 rfl
  have xR22 : u6.cell? ⟨(u5.heap.size), 2, none⟩ = some (.int .i64 b) := H69.out.c 2 rfl
  have xR23 : u6.cell? ⟨(u5.heap.size), 3, none⟩ = some (.slice v2 V1.length d2) := H69.out.c 3 rfl
  have xR24 : u6.cell? ⟨(u5.heap.size), 4, none⟩ = some (.int .i64 (dn + 1)) := H69.out.c 4 rfl
  have zR2 : (u5.heap.size) < u6.heap.size := H69.out.2.2
  have xR10 : u6.cell? ⟨(u4.heap.size), 0, none⟩ = some (.int .i64 T1) := H66.out.c 0 rfl
  have xR11 : u6.cell? ⟨(u4.heap.size), 1, none⟩ = some (.slice a1 A1.length c1) := H66.out.c 1 rfl
  have xR12 : u6.cell? ⟨(u4.heap.size), 2, none⟩ = some (.int .i64 b) := H66.out.c 2 rfl
  have xR13 : u6.cell? ⟨(u4.heap.size), 3, none⟩ = some (.slice v1 l.length d1) := H66.out.c 3 rfl
  have xR14 : u6.cell? ⟨(u4.heap.size), 4, none⟩ = some (.int .i64 (dn + 1)) := H66.out.c 4 rfl
  have zR1 : (u4.heap.size) < u6.heap.size := H66.out.2.2
  have xP0 : u6.cell? ⟨(w.heap.size + 1 + 1), 0, none⟩ = some (.int .i64 a) := H63.out.c 0 rfl
  have xP1 : u6.cell? ⟨(w.heap.size + 1 + 1), 1, none⟩ = some (.int .i64 pb) := H63.out.c 1 rfl
  have xP2 : u6.cell? ⟨(w.heap.size + 1 + 1), 2, none⟩ = some (.int .i64 pc) := H63.out.c 2 rfl
  have xP3 : u6.cell? ⟨(w.heap.size + 1 + 1), 3, none⟩ = some (.int .i64 pd) := H63.out.c 3 rfl
  have zP : (w.heap.size + 1 + 1) < u6.heap.size := H63.out.2.2
  have xR0 : u6.cell? ⟨(w.heap.size), 0, none⟩ = some (.int .i64 t) := H61.out.c 0 rfl
  have xR1 : u6.cell? ⟨(w.heap.size), 1, none⟩ = some (.slice sa L.length sc) := H61.out.c 1 rfl
  have xR2 : u6.cell? ⟨(w.heap.size), 2, none⟩ = some (.int .i64 f) := H61.out.c 2 rfl
  have xR3 : u6.cell? ⟨(w.heap.size), 3, none⟩ = some (.slice va l.length vc) := H61.out.c 3 rfl
  have xR4 : u6.cell? ⟨(w.heap.size), 4, none⟩ = some (.int .i64 dn) := H61.out.c 4 rfl
  have zR : (w.heap.size) < u6.heap.size := H61.out.2.2
  have xO0 : u6.cell? ⟨(w.heap.size + 1), 0, none⟩ = some (.int .i64 a) := H62.out.c 0 rfl
  have xO1 : u6.cell? ⟨(w.heap.size + 1), 1, none⟩ = some (.int .i64 b) := H62.out.c 1 rfl
  have xO2 : u6.cell? ⟨(w.heap.size + 1), 2, none⟩ = some (.int .i64 c) := H62.out.c 2 rfl
  have xO3 : u6.cell? ⟨(w.heap.size + 1), 3, none⟩ = some (.int .i64 d) := H62.out.c 3 rfl
  have zO : (w.heap.size + 1) < u6.heap.size := H62.out.2.2
  go_wp2_with fail
  have hI2 : IntsAt u6 (.slice v2 l.length d2) V1 := by have h := H68.out; rw [HVL.out] at h; exact h
  try rw [HVL.out]
  refine (samer_any T1 b (dn + 1) A1 V1 l.length _ _ _ _ _ _ _ _ _ H64.out H65.out H67.out hI2).mono ?_
  rintro e u7 ⟨rfl, b7⟩
  clear xR20 xR21 xR22 xR23 xR24 zR2 xR10 xR11 xR12 xR13 xR14 zR1 xP0 xP1 xP2 xP3 zP xR0 xR1 xR2 xR3 xR4 zR xO0 xO1 xO2 xO3 zO
  have H71 := Lib.hid (H61.out.step b7)
  clear H61
  have H72 := Lib.hid (H62.out.step b7)
  clear H62
  have H73 := Lib.hid (H63.out.step b7)
  clear H63
  have H74 := Lib.hid (H64.out.step b7)
  clear H64
  have H75 := Lib.hid (H65.out.step b7)
  clear H65
  have H76 := Lib.hid (H66.out.step b7)
  clear H66
  have H77 := Lib.hid (H67.out.step b7)
  clear H67
  have H78 := Lib.hid (H68.out.step b7)
  clear H68
  have H79 := Lib.hid (H69.out.step b7)
  clear H69
  have H80 := Lib.hid (keep2 b7 H70.out)
  clear H70
  clear b7
  clear hI2
  have xR20 : u7.cell? ⟨(u5.heap.size), 0, none⟩ = some (.int .i64 T1) := H79.out.c 0 rfl
  have xR21 : u7.cell? ⟨(u5.heap.size), 1, none⟩ = some (.slice a2 A1.length c2) := H79.out.c 1 rfl
  have xR22 : u7.cell? ⟨(u5.heap.size), 2, none⟩ = some (.int .i64 b) := H79.out.c 2 rfl
  have xR23 : u7.cell? ⟨(u5.heap.size), 3, none⟩ = some (.slice v2 V1.length d2) := H79.out.c 3 rfl
  have xR24 : u7.cell? ⟨(u5.heap.size), 4, none⟩ = some (.int .i64 (dn + 1)) := H79.out.c 4 rfl
  have zR2 : (u5.heap.size) < u7.heap.size := H79.out.2.2
  have xR10 : u7.cell? ⟨(u4.heap.size), 0, none⟩ = some (.int .i64 T1) := H76.out.c 0 rfl
  have xR11 : u7.cell? ⟨(u4.heap.size), 1, none⟩ = some (.slice a1 A1.length c1) := H76.out.c 1 rfl
  have xR12 : u7.cell? ⟨(u4.heap.size), 2, none⟩ = some (.int .i64 b) := H76.out.c 2 rfl
  have xR13 : u7.cell? ⟨(u4.heap.size), 3, none⟩ = some (.slice v1 l.length d1) := H76.out.c 3 rfl
  have xR14 : u7.cell? ⟨(u4.heap.size), 4, none⟩ = some (.int .i64 (dn + 1)) := H76.out.c 4 rfl
  have zR1 : (u4.heap.size) < u7.heap.size := H76.out.2.2
  have xP0 : u7.cell? ⟨(w.heap.size + 1 + 1), 0, none⟩ = some (.int .i64 a) := H73.out.c 0 rfl
  have xP1 : u7.cell? ⟨(w.heap.size + 1 + 1), 1, none⟩ = some (.int .i64 pb) := H73.out.c 1 rfl
  have xP2 : u7.cell? ⟨(w.heap.size + 1 + 1), 2, none⟩ = some (.int .i64 pc) := H73.out.c 2 rfl
  have xP3 : u7.cell? ⟨(w.heap.size + 1 + 1), 3, none⟩ = some (.int .i64 pd) := H73.out.c 3 rfl
  have zP : (w.heap.size + 1 + 1) < u7.heap.size := H73.out.2.2
  have xR0 : u7.cell? ⟨(w.heap.size), 0, none⟩ = some (.int .i64 t) := H71.out.c 0 rfl
  have xR1 : u7.cell? ⟨(w.heap.size), 1, none⟩ = some (.slice sa L.length sc) := H71.out.c 1 rfl
  have xR2 : u7.cell? ⟨(w.heap.size), 2, none⟩ = some (.int .i64 f) := H71.out.c 2 rfl
  have xR3 : u7.cell? ⟨(w.heap.size), 3, none⟩ = some (.slice va l.length vc) := H71.out.c 3 rfl
  have xR4 : u7.cell? ⟨(w.heap.size), 4, none⟩ = some (.int .i64 dn) := H71.out.c 4 rfl
  have zR : (w.heap.size) < u7.heap.size := H71.out.2.2
  have xO0 : u7.cell? ⟨(w.heap.size + 1), 0, none⟩ = some (.int .i64 a) := H72.out.c 0 rfl
  have xO1 : u7.cell? ⟨(w.heap.size + 1), 1, none⟩ = some (.int .i64 b) := H72.out.c 1 rfl
  have xO2 : u7.cell? ⟨(w.heap.size + 1), 2, none⟩ = some (.int .i64 c) := H72.out.c 2 rfl
  have xO3 : u7.cell? ⟨(w.heap.size + 1), 3, none⟩ = some (.int .i64 d) := H72.out.c 3 rfl
  have zO : (w.heap.size + 1) < u7.heap.size := H72.out.2.2
  clear H79
  clear H77
  clear H78
  clear H73
  clear H74
  clear H75
  have HZ3 := Lib.hid (show (u4.heap.size) < u7.heap.size from H76.out.2.2)
  have HZ4 := Lib.hid (show w.heap.size + 1 < u7.heap.size from H72.out.2.2)
  have CS := Cs.new u7 u7.heap.size #[.int .i64 t, .slice sa L.length sc, .int .i64 f, .slice va l.length vc, .int .i64 dn] 30 (by simp)
  have xs0 : (u7.alloc (.cells #[.int .i64 t, .slice sa L.length sc, .int .i64 f, .slice va l.length vc, .int .i64 dn] 30)).cell? ⟨u7.heap.size, 0, none⟩ = some (.int .i64 t) := CS.c 0 rfl
  have ys0 : (u7.alloc (.cells #[.int .i64 t, .slice sa L.length sc, .int .i64 f, .slice va l.length vc, .int .i64 dn] 30)).frozen? ⟨u7.heap.size, 0, none⟩ = false := CS.f 0 (by simp)
  have xs1 : (u7.alloc (.cells #[.int .i64 t, .slice sa L.length sc, .int .i64 f, .slice va l.length vc, .int .i64 dn] 30)).cell? ⟨u7.heap.size, 1, none⟩ = some (.slice sa L.length sc) := CS.c 1 rfl
  have ys1 : (u7.alloc (.cells #[.int .i64 t, .slice sa L.length sc, .int .i64 f, .slice va l.length vc, .int .i64 dn] 30)).frozen? ⟨u7.heap.size, 1, none⟩ = false := CS.f 1 (by simp)
  have xs2 : (u7.alloc (.cells #[.int .i64 t, .slice sa L.length sc, .int .i64 f, .slice va l.length vc, .int .i64 dn] 30)).cell? ⟨u7.heap.size, 2, none⟩ = some (.int .i64 f) := CS.c 2 rfl
  have ys2 : (u7.alloc (.cells #[.int .i64 t, .slice sa L.length sc, .int .i64 f, .slice va l.length vc, .int .i64 dn] 30)).frozen? ⟨u7.heap.size, 2, none⟩ = false := CS.f 2 (by simp)
  have xs3 : (u7.alloc (.cells #[.int .i64 t, .slice sa L.length sc, .int .i64 f, .slice va l.length vc, .int .i64 dn] 30)).cell? ⟨u7.heap.size, 3, none⟩ = some (.slice va l.length vc) := CS.c 3 rfl
  have ys3 : (u7.alloc (.cells #[.int .i64 t, .slice sa L.length sc, .int .i64 f, .slice va l.length vc, .int .i64 dn] 30)).frozen? ⟨u7.heap.size, 3, none⟩ = false := CS.f 3 (by simp)
  have xs4 : (u7.alloc (.cells #[.int .i64 t, .slice sa L.length sc, .int .i64 f, .slice va l.length vc, .int .i64 dn] 30)).cell? ⟨u7.heap.size, 4, none⟩ = some (.int .i64 dn) := CS.c 4 rfl
  have ys4 : (u7.alloc (.cells #[.int .i64 t, .slice sa L.length sc, .int .i64 f, .slice va l.length vc, .int .i64 dn] 30)).frozen? ⟨u7.heap.size, 4, none⟩ = false := CS.f 4 (by simp)
  have zs : u7.heap.size < (u7.alloc (.cells #[.int .i64 t, .slice sa L.length sc, .int .i64 f, .slice va l.length vc, .int .i64 dn] 30)).heap.size := CS.2.2
  clear CS
  have xtO0 : (u7.alloc (.cells #[.int .i64 t, .slice sa L.length sc, .int .i64 f, .slice va l.length vc, .int .i64 dn] 30)).cell? ⟨(w.heap.size + 1), 0, none⟩ = some (.int .i64 a) := (H72.out.step (al u7 (.cells #[.int .i64 t, .slice sa L.length sc, .int .i64 f, .slice va l.length vc, .int .i64 dn] 30))).c 0 rfl
  have xtO1 : (u7.alloc (.cells #[.int .i64 t, .slice sa L.length sc, .int .i64 f, .slice va l.length vc, .int .i64 dn] 30)).cell? ⟨(w.heap.size + 1), 1, none⟩ = some (.int .i64 b) := (H72.out.step (al u7 (.cells #[.int .i64 t, .slice sa L.length sc, .int .i64 f, .slice va l.length vc, .int .i64 dn] 30))).c 1 rfl
  have xtO2 : (u7.alloc (.cells #[.int .i64 t, .slice sa L.length sc, .int .i64 f, .slice va l.length vc, .int .i64 dn] 30)).cell? ⟨(w.heap.size + 1), 2, none⟩ = some (.int .i64 c) := (H72.out.step (al u7 (.cells #[.int .i64 t, .slice sa L.length sc, .int .i64 f, .slice va l.length vc, .int .i64 dn] 30))).c 2 rfl
  have xtO3 : (u7.alloc (.cells #[.int .i64 t, .slice sa L.length sc, .int .i64 f, .slice va l.length vc, .int .i64 dn] 30)).cell? ⟨(w.heap.size + 1), 3, none⟩ = some (.int .i64 d) := (H72.out.step (al u7 (.cells #[.int .i64 t, .slice sa L.length sc, .int .i64 f, .slice va l.length vc, .int .i64 dn] 30))).c 3 rfl
  have ztO : (w.heap.size + 1) < (u7.alloc (.cells #[.int .i64 t, .slice sa L.length sc, .int .i64 f, .slice va l.length vc, .int .i64 dn] 30)).heap.size := (H72.out.step (al u7 (.cells #[.int .i64 t, .slice sa L.length sc, .int .i64 f, .slice va l.length vc, .int .i64 dn] 30))).2.2
  have xtR10 : (u7.alloc (.cells #[.int .i64 t, .slice sa L.length sc, .int .i64 f, .slice va l.length vc, .int .i64 dn] 30)).cell? ⟨(u4.heap.size), 0, none⟩ = some (.int .i64 T1) := (H76.out.step (al u7 (.cells #[.int .i64 t, .slice sa L.length sc, .int .i64 f, .slice va l.length vc, .int .i64 dn] 30))).c 0 rfl
  have xtR11 : (u7.alloc (.cells #[.int .i64 t, .slice sa L.length sc, .int .i64 f, .slice va l.length vc, .int .i64 dn] 30)).cell? ⟨(u4.heap.size), 1, none⟩ = some (.slice a1 A1.length c1) := (H76.out.step (al u7 (.cells #[.int .i64 t, .slice sa L.length sc, .int .i64 f, .slice va l.length vc, .int .i64 dn] 30))).c 1 rfl
  have xtR12 : (u7.alloc (.cells #[.int .i64 t, .slice sa L.length sc, .int .i64 f, .slice va l.length vc, .int .i64 dn] 30)).cell? ⟨(u4.heap.size), 2, none⟩ = some (.int .i64 b) := (H76.out.step (al u7 (.cells #[.int .i64 t, .slice sa L.length sc, .int .i64 f, .slice va l.length vc, .int .i64 dn] 30))).c 2 rfl
  have xtR13 : (u7.alloc (.cells #[.int .i64 t, .slice sa L.length sc, .int .i64 f, .slice va l.length vc, .int .i64 dn] 30)).cell? ⟨(u4.heap.size), 3, none⟩ = some (.slice v1 l.length d1) := (H76.out.step (al u7 (.cells #[.int .i64 t, .slice sa L.length sc, .int .i64 f, .slice va l.length vc, .int .i64 dn] 30))).c 3 rfl
  have xtR14 : (u7.alloc (.cells #[.int .i64 t, .slice sa L.length sc, .int .i64 f, .slice va l.length vc, .int .i64 dn] 30)).cell? ⟨(u4.heap.size), 4, none⟩ = some (.int .i64 (dn + 1)) := (H76.out.step (al u7 (.cells #[.int .i64 t, .slice sa L.length sc, .int .i64 f, .slice va l.length vc, .int .i64 dn] 30))).c 4 rfl
  have ztR1 : (u4.heap.size) < (u7.alloc (.cells #[.int .i64 t, .slice sa L.length sc, .int .i64 f, .slice va l.length vc, .int .i64 dn] 30)).heap.size := (H76.out.step (al u7 (.cells #[.int .i64 t, .slice sa L.length sc, .int .i64 f, .slice va l.length vc, .int .i64 dn] 30))).2.2
  have H81 := Lib.hid (H71.out.step (al u7 (.cells #[.int .i64 t, .slice sa L.length sc, .int .i64 (b + 1 + x), .slice va l.length vc, .int .i64 dn] 30)))
  clear H71
  have H82 := Lib.hid (H72.out.step (al u7 (.cells #[.int .i64 t, .slice sa L.length sc, .int .i64 (b + 1 + x), .slice va l.length vc, .int .i64 dn] 30)))
  clear H72
  have H83 := Lib.hid (H76.out.step (al u7 (.cells #[.int .i64 t, .slice sa L.length sc, .int .i64 (b + 1 + x), .slice va l.length vc, .int .i64 dn] 30)))
  clear H76
  have H84 := Lib.hid (keep2 (al u7 (.cells #[.int .i64 t, .slice sa L.length sc, .int .i64 (b + 1 + x), .slice va l.length vc, .int .i64 dn] 30)) H80.out)
  clear H80
  have H85 := Lib.hid (Cs.new u7 (u7.heap.size) #[.int .i64 t, .slice sa L.length sc, .int .i64 (b + 1 + x), .slice va l.length vc, .int .i64 dn] 30 (by simp))
  have w1 : wrap64 (b + 1) = b + 1 := IntWalk.wrap64_in _ (by have := (orB_iff HOB.out).2.1; omega)
  have w2 : wrap64 (b + 1 + x) = b + 1 + x := IntWalk.wrap64_in _ (by have := (orB_iff HOB.out).2.1; have := HX.out; omega)
  have w3 : wrap64 x = x := IntWalk.wrap64_in _ (by have := HX.out; omega)
  have m1 : decide (b + 1 + x > 1000000000) = true := by have := HFX.out; simp; omega
  have m2 : decide (1000000000 < b + 1 + x) = true := by have := HFX.out; simp; omega
  have xqS0 : (u7.alloc (.cells #[.int .i64 t, .slice sa L.length sc, .int .i64 (b + 1 + x), .slice va l.length vc, .int .i64 dn] 30)).cell? ⟨(u7.heap.size), 0, none⟩ = some (.int .i64 t) := H85.out.c 0 rfl
  have xqS1 : (u7.alloc (.cells #[.int .i64 t, .slice sa L.length sc, .int .i64 (b + 1 + x), .slice va l.length vc, .int .i64 dn] 30)).cell? ⟨(u7.heap.size), 1, none⟩ = some (.slice sa L.length sc) := H85.out.c 1 rfl
  have xqS2 : (u7.alloc (.cells #[.int .i64 t, .slice sa L.length sc, .int .i64 (b + 1 + x), .slice va l.length vc, .int .i64 dn] 30)).cell? ⟨(u7.heap.size), 2, none⟩ = some (.int .i64 (b + 1 + x)) := H85.out.c 2 rfl
  have xqS3 : (u7.alloc (.cells #[.int .i64 t, .slice sa L.length sc, .int .i64 (b + 1 + x), .slice va l.length vc, .int .i64 dn] 30)).cell? ⟨(u7.heap.size), 3, none⟩ = some (.slice va l.length vc) := H85.out.c 3 rfl
  have xqS4 : (u7.alloc (.cells #[.int .i64 t, .slice sa L.length sc, .int .i64 (b + 1 + x), .slice va l.length vc, .int .i64 dn] 30)).cell? ⟨(u7.heap.size), 4, none⟩ = some (.int .i64 dn) := H85.out.c 4 rfl
  have zqS : (u7.heap.size) < (u7.alloc (.cells #[.int .i64 t, .slice sa L.length sc, .int .i64 (b + 1 + x), .slice va l.length vc, .int .i64 dn] 30)).heap.size := H85.out.2.2
  have xqO0 : (u7.alloc (.cells #[.int .i64 t, .slice sa L.length sc, .int .i64 (b + 1 + x), .slice va l.length vc, .int .i64 dn] 30)).cell? ⟨(w.heap.size + 1), 0, none⟩ = some (.int .i64 a) := H82.out.c 0 rfl
  have xqO1 : (u7.alloc (.cells #[.int .i64 t, .slice sa L.length sc, .int .i64 (b + 1 + x), .slice va l.length vc, .int .i64 dn] 30)).cell? ⟨(w.heap.size + 1), 1, none⟩ = some (.int .i64 b) := H82.out.c 1 rfl
  have xqO2 : (u7.alloc (.cells #[.int .i64 t, .slice sa L.length sc, .int .i64 (b + 1 + x), .slice va l.length vc, .int .i64 dn] 30)).cell? ⟨(w.heap.size + 1), 2, none⟩ = some (.int .i64 c) := H82.out.c 2 rfl
  have xqO3 : (u7.alloc (.cells #[.int .i64 t, .slice sa L.length sc, .int .i64 (b + 1 + x), .slice va l.length vc, .int .i64 dn] 30)).cell? ⟨(w.heap.size + 1), 3, none⟩ = some (.int .i64 d) := H82.out.c 3 rfl
  have zqO : (w.heap.size + 1) < (u7.alloc (.cells #[.int .i64 t, .slice sa L.length sc, .int .i64 (b + 1 + x), .slice va l.length vc, .int .i64 dn] 30)).heap.size := H82.out.2.2
  have xqR10 : (u7.alloc (.cells #[.int .i64 t, .slice sa L.length sc, .int .i64 (b + 1 + x), .slice va l.length vc, .int .i64 dn] 30)).cell? ⟨(u4.heap.size), 0, none⟩ = some (.int .i64 T1) := H83.out.c 0 rfl
  have xqR11 : (u7.alloc (.cells #[.int .i64 t, .slice sa L.length sc, .int .i64 (b + 1 + x), .slice va l.length vc, .int .i64 dn] 30)).cell? ⟨(u4.heap.size), 1, none⟩ = some (.slice a1 A1.length c1) := H83.out.c 1 rfl
  have xqR12 : (u7.alloc (.cells #[.int .i64 t, .slice sa L.length sc, .int .i64 (b + 1 + x), .slice va l.length vc, .int .i64 dn] 30)).cell? ⟨(u4.heap.size), 2, none⟩ = some (.int .i64 b) := H83.out.c 2 rfl
  have xqR13 : (u7.alloc (.cells #[.int .i64 t, .slice sa L.length sc, .int .i64 (b + 1 + x), .slice va l.length vc, .int .i64 dn] 30)).cell? ⟨(u4.heap.size), 3, none⟩ = some (.slice v1 l.length d1) := H83.out.c 3 rfl
  have xqR14 : (u7.alloc (.cells #[.int .i64 t, .slice sa L.length sc, .int .i64 (b + 1 + x), .slice va l.length vc, .int .i64 dn] 30)).cell? ⟨(u4.heap.size), 4, none⟩ = some (.int .i64 (dn + 1)) := H83.out.c 4 rfl
  have zqR1 : (u4.heap.size) < (u7.alloc (.cells #[.int .i64 t, .slice sa L.length sc, .int .i64 (b + 1 + x), .slice va l.length vc, .int .i64 dn] 30)).heap.size := H83.out.2.2
  go_wp2
  go_ret
  exact ⟨rfl, H84.out⟩
set_option maxRecDepth 100000 in
set_option maxHeartbeats 8000000 in
theorem known_did32 (t f dn a b c d pa pb pc pd x : Int) (T1 : Int) (A1 : List Bool) (V1 : List Int) (sa va : Option Addr) (sc vc : Nat) (L : List Bool) (l : List Int) (w : World) (hs : BosAt w (.slice sa L.length sc) L) (hc : L.length ≤ sc) (hv : IntsAt w (.slice va l.length vc) l) (hsm : (decide (0 ≤ 30) && (decide (l.length ≤ 30) && decide (L.length ≤ 30))) = true) (hwf : WF t L) (hrv : rvB f l dn = true) (hdn : ¬ 1000000 < dn) (hrw : RW t L f l dn a b c d T1 A1 b V1 (dn + 1) true 0) (hvl : V1.length = l.length) (hal : A1.length ≤ 100000) (hob : orB a b c d = true) (hbf : f ≤ b) (hx : 0 ≤ x ∧ x ≤ 65535) (hrw2 : RW T1 A1 b V1 (dn + 1) a pb pc pd T1 A1 b V1 (dn + 1) true 0) (hop : orB a pb pc pd = true) (hpc : pc < l.length) (hfx : b + 1 + x ≤ 1000000000) (hrw3 : RW t L (b + 1 + x) l dn a b c d t L (b + 1 + x) l dn false 23) :
    Calls Try.prog 7 #[.agg #[.int .i64 t, .slice sa L.length sc, .int .i64 f, .slice va l.length vc, .int .i64 dn], .agg #[.int .i64 a, .int .i64 b, .int .i64 c, .int .i64 d], .agg #[.int .i64 pa, .int .i64 pb, .int .i64 pc, .int .i64 pd], .int .u16 x] w fun e w' => e = .returned (.bool true) ∧ Below w.heap.size w w' := by
  have HS := Lib.hid hs
  have HV := Lib.hid hv
  have HCP := Lib.hid hc
  clear hs hv hc
  have HSM := Lib.hid hsm
  clear hsm
  have HWF := Lib.hid hwf
  have HRV := Lib.hid hrv
  clear hwf hrv
  have g1 : decide (dn > 1000000) = false := by simp; omega
  have g2 : decide (1000000 < dn) = false := by simp; omega
  clear hdn
  have HLN := Lib.hid (show L.length ≤ 100000 ∧ l.length ≤ 100000 by have := HSM.out; simp at this; omega)
  have HRW := Lib.hid hrw
  have HVL := Lib.hid hvl
  have HAL := Lib.hid hal
  have HOB := Lib.hid hob
  have HBF := Lib.hid hbf
  have HX := Lib.hid hx
  have e1 : decide (dn + 1 = dn) = false := decide_eq_false (by omega)
  have e2 : (dn + 1 == dn) = false := beq_eq_false_iff_ne.2 (by omega)
  have HRW2 := Lib.hid hrw2
  have HOP := Lib.hid hop
  clear hrw hvl hal hob hbf hx hrw2 hop
  have HFX := Lib.hid hfx
  clear hfx
  have HRW3 := Lib.hid hrw3
  clear hrw3
  have n1 : decide (pc < (l.length : Int)) = true := by simpa using hpc
  clear hpc
  have H0 := Lib.hid (Below.refl w.heap.size w)
  have H1 := Lib.hid (keep2 (al w (.cells #[.int .i64 t, .slice sa L.length sc, .int .i64 f, .slice va l.length vc, .int .i64 dn] 30)) H0.out)
  clear H0
  have H2 := Lib.hid (Cs.new w (w.heap.size) #[.int .i64 t, .slice sa L.length sc, .int .i64 f, .slice va l.length vc, .int .i64 dn] 30 (by simp))
  have H3 := Lib.hid (H2.out.step (al (w.alloc (.cells #[.int .i64 t, .slice sa L.length sc, .int .i64 f, .slice va l.length vc, .int .i64 dn] 30)) (.cells #[.int .i64 a, .int .i64 b, .int .i64 c, .int .i64 d] 32)))
  clear H2
  have H4 := Lib.hid (keep2 (al (w.alloc (.cells #[.int .i64 t, .slice sa L.length sc, .int .i64 f, .slice va l.length vc, .int .i64 dn] 30)) (.cells #[.int .i64 a, .int .i64 b, .int .i64 c, .int .i64 d] 32)) H1.out)
  clear H1
  have H5 := Lib.hid (Cs.new (w.alloc (.cells #[.int .i64 t, .slice sa L.length sc, .int .i64 f, .slice va l.length vc, .int .i64 dn] 30)) (w.heap.size + 1) #[.int .i64 a, .int .i64 b, .int .i64 c, .int .i64 d] 32 (by simp))
  have H6 := Lib.hid (H3.out.step (al ((w.alloc (.cells #[.int .i64 t, .slice sa L.length sc, .int .i64 f, .slice va l.length vc, .int .i64 dn] 30)).alloc (.cells #[.int .i64 a, .int .i64 b, .int .i64 c, .int .i64 d] 32)) (.cells #[.int .i64 pa, .int .i64 pb, .int .i64 pc, .int .i64 pd] 32)))
  clear H3
  have H7 := Lib.hid (H5.out.step (al ((w.alloc (.cells #[.int .i64 t, .slice sa L.length sc, .int .i64 f, .slice va l.length vc, .int .i64 dn] 30)).alloc (.cells #[.int .i64 a, .int .i64 b, .int .i64 c, .int .i64 d] 32)) (.cells #[.int .i64 pa, .int .i64 pb, .int .i64 pc, .int .i64 pd] 32)))
  clear H5
  have H8 := Lib.hid (keep2 (al ((w.alloc (.cells #[.int .i64 t, .slice sa L.length sc, .int .i64 f, .slice va l.length vc, .int .i64 dn] 30)).alloc (.cells #[.int .i64 a, .int .i64 b, .int .i64 c, .int .i64 d] 32)) (.cells #[.int .i64 pa, .int .i64 pb, .int .i64 pc, .int .i64 pd] 32)) H4.out)
  clear H4
  have H9 := Lib.hid (Cs.new ((w.alloc (.cells #[.int .i64 t, .slice sa L.length sc, .int .i64 f, .slice va l.length vc, .int .i64 dn] 30)).alloc (.cells #[.int .i64 a, .int .i64 b, .int .i64 c, .int .i64 d] 32)) (w.heap.size + 1 + 1) #[.int .i64 pa, .int .i64 pb, .int .i64 pc, .int .i64 pd] 32 (by simp))
  go_enter Try.func7, Try.ntmps7
  go_wp2_with fail
  refine (head_any _).mono ?_
  rintro e u1 ⟨rfl, b1⟩
  have H10 := Lib.hid (H6.out.step b1)
  clear H6
  have H11 := Lib.hid (H7.out.step b1)
  clear H7
  have H12 := Lib.hid (H9.out.step b1)
  clear H9
  have H13 := Lib.hid (keep2 b1 H8.out)
  clear H8
  clear b1
  have xR0 : u1.cell? ⟨(w.heap.size), 0, none⟩ = some (.int .i64 t) := H10.out.c 0 rfl
  have xR1 : u1.cell? ⟨(w.heap.size), 1, none⟩ = some (.slice sa L.length sc) := H10.out.c 1 rfl
  have xR2 : u1.cell? ⟨(w.heap.size), 2, none⟩ = some (.int .i64 f) := H10.out.c 2 rfl
  have xR3 : u1.cell? ⟨(w.heap.size), 3, none⟩ = some (.slice va l.length vc) := H10.out.c 3 rfl
  have xR4 : u1.cell? ⟨(w.heap.size), 4, none⟩ = some (.int .i64 dn) := H10.out.c 4 rfl
  have zR : (w.heap.size) < u1.heap.size := H10.out.2.2
  go_wp2_with fail
  refine (small_any 0 t f dn none sa va 0 L.length l.length 0 sc vc true HSM.out _).mono ?_
  rintro e u2 ⟨rfl, b2⟩
  clear xR0 xR1 xR2 xR3 xR4 zR
  have H14 := Lib.hid (H10.out.step b2)
  clear H10
  have H15 := Lib.hid (H11.out.step b2)
  clear H11
  have H16 := Lib.hid (H12.out.step b2)
  clear H12
  have H17 := Lib.hid (keep2 b2 H13.out)
  clear H13
  clear b2
  have xR0 : u2.cell? ⟨(w.heap.size), 0, none⟩ = some (.int .i64 t) := H14.out.c 0 rfl
  have xR1 : u2.cell? ⟨(w.heap.size), 1, none⟩ = some (.slice sa L.length sc) := H14.out.c 1 rfl
  have xR2 : u2.cell? ⟨(w.heap.size), 2, none⟩ = some (.int .i64 f) := H14.out.c 2 rfl
  have xR3 : u2.cell? ⟨(w.heap.size), 3, none⟩ = some (.slice va l.length vc) := H14.out.c 3 rfl
  have xR4 : u2.cell? ⟨(w.heap.size), 4, none⟩ = some (.int .i64 dn) := H14.out.c 4 rfl
  have zR : (w.heap.size) < u2.heap.size := H14.out.2.2
  go_wp2_with fail
  refine (rrecv_win t f dn sa va sc vc L l _ (HS.out.step H17.out) HCP.out (HV.out.step H17.out) HWF.out _ HRV.out).mono ?_
  rintro e u3 ⟨rfl, b3⟩
  clear xR0 xR1 xR2 xR3 xR4 zR
  have H18 := Lib.hid (H14.out.step b3)
  clear H14
  have H19 := Lib.hid (H15.out.step b3)
  clear H15
  have H20 := Lib.hid (H16.out.step b3)
  clear H16
  have H21 := Lib.hid (keep2 b3 H17.out)
  clear H17
  clear b3
  have xR0 : u3.cell? ⟨(w.heap.size), 0, none⟩ = some (.int .i64 t) := H18.out.c 0 rfl
  have xR1 : u3.cell? ⟨(w.heap.size), 1, none⟩ = some (.slice sa L.length sc) := H18.out.c 1 rfl
  have xR2 : u3.cell? ⟨(w.heap.size), 2, none⟩ = some (.int .i64 f) := H18.out.c 2 rfl
  have xR3 : u3.cell? ⟨(w.heap.size), 3, none⟩ = some (.slice va l.length vc) := H18.out.c 3 rfl
  have xR4 : u3.cell? ⟨(w.heap.size), 4, none⟩ = some (.int .i64 dn) := H18.out.c 4 rfl
  have zR : (w.heap.size) < u3.heap.size := H18.out.2.2
  have HZ0 := Lib.hid (show w.heap.size + 1 + 1 < u3.heap.size from H20.out.2.2)
  have xO0 : u3.cell? ⟨(w.heap.size + 1), 0, none⟩ = some (.int .i64 a) := H19.out.c 0 rfl
  have xO1 : u3.cell? ⟨(w.heap.size + 1), 1, none⟩ = some (.int .i64 b) := H19.out.c 1 rfl
  have xO2 : u3.cell? ⟨(w.heap.size + 1), 2, none⟩ = some (.int .i64 c) := H19.out.c 2 rfl
  have xO3 : u3.cell? ⟨(w.heap.size + 1), 3, none⟩ = some (.int .i64 d) := H19.out.c 3 rfl
  have zO : (w.heap.size + 1) < u3.heap.size := H19.out.2.2
  go_wp2_with fail
  refine (receive_is HRW.out _ _ _ (HS.out.step H21.out) (HV.out.step H21.out) HLN.out.1 HLN.out.2).mono ?_
  rintro e u4 ⟨c1, d1, a1, v1, rfl, hq, hB, hI, b4, hG, hK⟩
  clear xR0 xR1 xR2 xR3 xR4 zR xO0 xO1 xO2 xO3 zO
  have H22 := Lib.hid (H18.out.step b4)
  clear H18
  have H23 := Lib.hid (H19.out.step b4)
  clear H19
  have H24 := Lib.hid (H20.out.step b4)
  clear H20
  have H25 := Lib.hid (keep2 b4 H21.out)
  clear H21
  clear b4
  have H26 := Lib.hid (hB)
  have H27 := Lib.hid (hI)
  have HG1 := Lib.hid hG
  have HK1 := Lib.hid hK
  clear hB hI hG hK hq
  have HZ1 := Lib.hid (show w.heap.size + 1 + 1 < u4.heap.size from H24.out.2.2)
  have H28 := Lib.hid (H22.out.step (al u4 (.cells #[.int .i64 T1, .slice a1 A1.length c1, .int .i64 b, .slice v1 l.length d1, .int .i64 (dn + 1)] 30)))
  clear H22
  have H29 := Lib.hid (H23.out.step (al u4 (.cells #[.int .i64 T1, .slice a1 A1.length c1, .int .i64 b, .slice v1 l.length d1, .int .i64 (dn + 1)] 30)))
  clear H23
  have H30 := Lib.hid (H24.out.step (al u4 (.cells #[.int .i64 T1, .slice a1 A1.length c1, .int .i64 b, .slice v1 l.length d1, .int .i64 (dn + 1)] 30)))
  clear H24
  have H31 := Lib.hid (H26.out.step (al u4 (.cells #[.int .i64 T1, .slice a1 A1.length c1, .int .i64 b, .slice v1 l.length d1, .int .i64 (dn + 1)] 30)))
  clear H26
  have H32 := Lib.hid (H27.out.step (al u4 (.cells #[.int .i64 T1, .slice a1 A1.length c1, .int .i64 b, .slice v1 l.length d1, .int .i64 (dn + 1)] 30)))
  clear H27
  have H33 := Lib.hid (keep2 (al u4 (.cells #[.int .i64 T1, .slice a1 A1.length c1, .int .i64 b, .slice v1 l.length d1, .int .i64 (dn + 1)] 30)) H25.out)
  clear H25
  have H34 := Lib.hid (Cs.new u4 (u4.heap.size) #[.int .i64 T1, .slice a1 A1.length c1, .int .i64 b, .slice v1 l.length d1, .int .i64 (dn + 1)] 30 (by simp))
  have xpR10 : (u4.alloc (.cells #[.int .i64 T1, .slice a1 A1.length c1, .int .i64 b, .slice v1 l.length d1, .int .i64 (dn + 1)] 30)).cell? ⟨(u4.heap.size), 0, none⟩ = some (.int .i64 T1) := H34.out.c 0 rfl
  have xpR11 : (u4.alloc (.cells #[.int .i64 T1, .slice a1 A1.length c1, .int .i64 b, .slice v1 l.length d1, .int .i64 (dn + 1)] 30)).cell? ⟨(u4.heap.size), 1, none⟩ = some (.slice a1 A1.length c1) := H34.out.c 1 rfl
  have xpR12 : (u4.alloc (.cells #[.int .i64 T1, .slice a1 A1.length c1, .int .i64 b, .slice v1 l.length d1, .int .i64 (dn + 1)] 30)).cell? ⟨(u4.heap.size), 2, none⟩ = some (.int .i64 b) := H34.out.c 2 rfl
  have xpR13 : (u4.alloc (.cells #[.int .i64 T1, .slice a1 A1.length c1, .int .i64 b, .slice v1 l.length d1, .int .i64 (dn + 1)] 30)).cell? ⟨(u4.heap.size), 3, none⟩ = some (.slice v1 l.length d1) := H34.out.c 3 rfl
  have xpR14 : (u4.alloc (.cells #[.int .i64 T1, .slice a1 A1.length c1, .int .i64 b, .slice v1 l.length d1, .int .i64 (dn + 1)] 30)).cell? ⟨(u4.heap.size), 4, none⟩ = some (.int .i64 (dn + 1)) := H34.out.c 4 rfl
  have zpR1 : (u4.heap.size) < (u4.alloc (.cells #[.int .i64 T1, .slice a1 A1.length c1, .int .i64 b, .slice v1 l.length d1, .int .i64 (dn + 1)] 30)).heap.size := H34.out.2.2
  have xpR0 : (u4.alloc (.cells #[.int .i64 T1, .slice a1 A1.length c1, .int .i64 b, .slice v1 l.length d1, .int .i64 (dn + 1)] 30)).cell? ⟨(w.heap.size), 0, none⟩ = some (.int .i64 t) := H28.out.c 0 rfl
  have xpR1 : (u4.alloc (.cells #[.int .i64 T1, .slice a1 A1.length c1, .int .i64 b, .slice v1 l.length d1, .int .i64 (dn + 1)] 30)).cell? ⟨(w.heap.size), 1, none⟩ = some (.slice sa L.length sc) := H28.out.c 1 rfl
  have xpR2 : (u4.alloc (.cells #[.int .i64 T1, .slice a1 A1.length c1, .int .i64 b, .slice v1 l.length d1, .int .i64 (dn + 1)] 30)).cell? ⟨(w.heap.size), 2, none⟩ = some (.int .i64 f) := H28.out.c 2 rfl
  have xpR3 : (u4.alloc (.cells #[.int .i64 T1, .slice a1 A1.length c1, .int .i64 b, .slice v1 l.length d1, .int .i64 (dn + 1)] 30)).cell? ⟨(w.heap.size), 3, none⟩ = some (.slice va l.length vc) := H28.out.c 3 rfl
  have xpR4 : (u4.alloc (.cells #[.int .i64 T1, .slice a1 A1.length c1, .int .i64 b, .slice v1 l.length d1, .int .i64 (dn + 1)] 30)).cell? ⟨(w.heap.size), 4, none⟩ = some (.int .i64 dn) := H28.out.c 4 rfl
  have zpR : (w.heap.size) < (u4.alloc (.cells #[.int .i64 T1, .slice a1 A1.length c1, .int .i64 b, .slice v1 l.length d1, .int .i64 (dn + 1)] 30)).heap.size := H28.out.2.2
  have xpO0 : (u4.alloc (.cells #[.int .i64 T1, .slice a1 A1.length c1, .int .i64 b, .slice v1 l.length d1, .int .i64 (dn + 1)] 30)).cell? ⟨(w.heap.size + 1), 0, none⟩ = some (.int .i64 a) := H29.out.c 0 rfl
  have xpO1 : (u4.alloc (.cells #[.int .i64 T1, .slice a1 A1.length c1, .int .i64 b, .slice v1 l.length d1, .int .i64 (dn + 1)] 30)).cell? ⟨(w.heap.size + 1), 1, none⟩ = some (.int .i64 b) := H29.out.c 1 rfl
  have xpO2 : (u4.alloc (.cells #[.int .i64 T1, .slice a1 A1.length c1, .int .i64 b, .slice v1 l.length d1, .int .i64 (dn + 1)] 30)).cell? ⟨(w.heap.size + 1), 2, none⟩ = some (.int .i64 c) := H29.out.c 2 rfl
  have xpO3 : (u4.alloc (.cells #[.int .i64 T1, .slice a1 A1.length c1, .int .i64 b, .slice v1 l.length d1, .int .i64 (dn + 1)] 30)).cell? ⟨(w.heap.size + 1), 3, none⟩ = some (.int .i64 d) := H29.out.c 3 rfl
  have zpO : (w.heap.size + 1) < (u4.alloc (.cells #[.int .i64 T1, .slice a1 A1.length c1, .int .i64 b, .slice v1 l.length d1, .int .i64 (dn + 1)] 30)).heap.size := H29.out.2.2
  have xpP0 : (u4.alloc (.cells #[.int .i64 T1, .slice a1 A1.length c1, .int .i64 b, .slice v1 l.length d1, .int .i64 (dn + 1)] 30)).cell? ⟨(w.heap.size + 1 + 1), 0, none⟩ = some (.int .i64 pa) := H30.out.c 0 rfl
  have xpP1 : (u4.alloc (.cells #[.int .i64 T1, .slice a1 A1.length c1, .int .i64 b, .slice v1 l.length d1, .int .i64 (dn + 1)] 30)).cell? ⟨(w.heap.size + 1 + 1), 1, none⟩ = some (.int .i64 pb) := H30.out.c 1 rfl
  have xpP2 : (u4.alloc (.cells #[.int .i64 T1, .slice a1 A1.length c1, .int .i64 b, .slice v1 l.length d1, .int .i64 (dn + 1)] 30)).cell? ⟨(w.heap.size + 1 + 1), 2, none⟩ = some (.int .i64 pc) := H30.out.c 2 rfl
  have xpP3 : (u4.alloc (.cells #[.int .i64 T1, .slice a1 A1.length c1, .int .i64 b, .slice v1 l.length d1, .int .i64 (dn + 1)] 30)).cell? ⟨(w.heap.size + 1 + 1), 3, none⟩ = some (.int .i64 pd) := H30.out.c 3 rfl
  have zpP : (w.heap.size + 1 + 1) < (u4.alloc (.cells #[.int .i64 T1, .slice a1 A1.length c1, .int .i64 b, .slice v1 l.length d1, .int .i64 (dn + 1)] 30)).heap.size := H30.out.2.2
  have yP0 : (u4.alloc (.cells #[.int .i64 T1, .slice a1 A1.length c1, .int .i64 b, .slice v1 l.length d1, .int .i64 (dn + 1)] 30)).frozen? ⟨(w.heap.size + 1 + 1), 0, none⟩ = false := H30.out.f 0 (by simp)
  have H35 := Lib.hid (Cs.other H28.out (show (w.heap.size) ≠ (w.heap.size + 1 + 1) by omega) 0 (.int .i64 a))
  clear H28
  have H36 := Lib.hid (Cs.other H29.out (show (w.heap.size + 1) ≠ (w.heap.size + 1 + 1) by omega) 0 (.int .i64 a))
  clear H29
  have H37 := Lib.hid (Cs.set H30.out 0 (by simp) (.int .i64 a) (vs' := #[.int .i64 a, .int .i64 pb, .int .i64 pc, .int .i64 pd]) rfl)
  clear H30
  have H38 := Lib.hid (bos_oth H31.out (show ∀ g o, a1 = some ⟨g, o, none⟩ → g ≠ (w.heap.size + 1 + 1) from fun g o e => by have := HG1.out g o e; have := HZ0.out; omega) 0 (.int .i64 a))
  clear H31
  have H39 := Lib.hid (ints_oth H32.out (show ∀ g o, v1 = some ⟨g, o, none⟩ → g ≠ (w.heap.size + 1 + 1) from fun g o e => by have := HK1.out g o e; have := HZ0.out; omega) 0 (.int .i64 a))
  clear H32
  have H40 := Lib.hid (Cs.other H34.out (show (u4.heap.size) ≠ (w.heap.size + 1 + 1) by have := HZ1.out; omega) 0 (.int .i64 a))
  clear H34
  have H41 := Lib.hid (H33.out.setCell (p := ⟨(w.heap.size + 1 + 1), 0, none⟩) (show w.heap.size ≤ (w.heap.size + 1 + 1) by omega) (.int .i64 a))
  clear H33
  have ne1 : ¬ (u4.heap.size) = w.heap.size + 1 + 1 := by have := HZ1.out; omega
  have ne2 : ¬ w.heap.size + 1 + 1 = (u4.heap.size) := by have := HZ1.out; omega
  go_wp2_with fail
  obtain ⟨W2, hW2⟩ : ∃ z, ((u4.alloc (.cells #[.int .i64 T1, .slice a1 A1.length c1, .int .i64 b, .slice v1 l.length d1, .int .i64 (dn + 1)] 30)).setCell ⟨(w.heap.size + 1 + 1), 0, none⟩ (.int .i64 a)) = z := ⟨_, rfl⟩
  rw [hW2]
  rw [hW2] at H35
  rw [hW2] at H36
  rw [hW2] at H37
  rw [hW2] at H38
  rw [hW2] at H39
  rw [hW2] at H40
  rw [hW2] at H41
  clear hW2 xpR10 xpR11 xpR12 xpR13 xpR14 zpR1 xpR0 xpR1 xpR2 xpR3 xpR4 zpR xpO0 xpO1 xpO2 xpO3 zpO xpP0 xpP1 xpP2 xpP3 zpP yP0 ne1 ne2
  have xR10 : W2.cell? ⟨(u4.heap.size), 0, none⟩ = some (.int .i64 T1) := H40.out.c 0 rfl
  have xR11 : W2.cell? ⟨(u4.heap.size), 1, none⟩ = some (.slice a1 A1.length c1) := H40.out.c 1 rfl
  have xR12 : W2.cell? ⟨(u4.heap.size), 2, none⟩ = some (.int .i64 b) := H40.out.c 2 rfl
  have xR13 : W2.cell? ⟨(u4.heap.size), 3, none⟩ = some (.slice v1 l.length d1) := H40.out.c 3 rfl
  have xR14 : W2.cell? ⟨(u4.heap.size), 4, none⟩ = some (.int .i64 (dn + 1)) := H40.out.c 4 rfl
  have zR1 : (u4.heap.size) < W2.heap.size := H40.out.2.2
  have xP0 : W2.cell? ⟨(w.heap.size + 1 + 1), 0, none⟩ = some (.int .i64 a) := H37.out.c 0 rfl
  have xP1 : W2.cell? ⟨(w.heap.size + 1 + 1), 1, none⟩ = some (.int .i64 pb) := H37.out.c 1 rfl
  have xP2 : W2.cell? ⟨(w.heap.size + 1 + 1), 2, none⟩ = some (.int .i64 pc) := H37.out.c 2 rfl
  have xP3 : W2.cell? ⟨(w.heap.size + 1 + 1), 3, none⟩ = some (.int .i64 pd) := H37.out.c 3 rfl
  have zP : (w.heap.size + 1 + 1) < W2.heap.size := H37.out.2.2
  refine (receive_is HRW2.out _ _ _ H38.out H39.out HAL.out (by rw [HVL.out]; exact HLN.out.2)).mono ?_
  rintro e u5 ⟨c2, d2, a2, v2, rfl, hq, hB, hI, b5, -, -⟩
  clear xR10 xR11 xR12 xR13 xR14 zR1 xP0 xP1 xP2 xP3 zP
  have H42 := Lib.hid (H35.out.step b5)
  clear H35
  have H43 := Lib.hid (H36.out.step b5)
  clear H36
  have H44 := Lib.hid (H37.out.step b5)
  clear H37
  have H45 := Lib.hid (H38.out.step b5)
  clear H38
  have H46 := Lib.hid (H39.out.step b5)
  clear H39
  have H47 := Lib.hid (H40.out.step b5)
  clear H40
  have H48 := Lib.hid (keep2 b5 H41.out)
  clear H41
  clear b5
  have H49 := Lib.hid (hB)
  have H50 := Lib.hid (hI)
  clear hB hI hq
  have H51 := Lib.hid (H42.out.step (al u5 (.cells #[.int .i64 T1, .slice a2 A1.length c2, .int .i64 b, .slice v2 V1.length d2, .int .i64 (dn + 1)] 30)))
  clear H42
  have H52 := Lib.hid (H43.out.step (al u5 (.cells #[.int .i64 T1, .slice a2 A1.length c2, .int .i64 b, .slice v2 V1.length d2, .int .i64 (dn + 1)] 30)))
  clear H43
  have H53 := Lib.hid (H44.out.step (al u5 (.cells #[.int .i64 T1, .slice a2 A1.length c2, .int .i64 b, .slice v2 V1.length d2, .int .i64 (dn + 1)] 30)))
  clear H44
  have H54 := Lib.hid (H45.out.step (al u5 (.cells #[.int .i64 T1, .slice a2 A1.length c2, .int .i64 b, .slice v2 V1.length d2, .int .i64 (dn + 1)] 30)))
  clear H45
  have H55 := Lib.hid (H46.out.step (al u5 (.cells #[.int .i64 T1, .slice a2 A1.length c2, .int .i64 b, .slice v2 V1.length d2, .int .i64 (dn + 1)] 30)))
  clear H46
  have H56 := Lib.hid (H47.out.step (al u5 (.cells #[.int .i64 T1, .slice a2 A1.length c2, .int .i64 b, .slice v2 V1.length d2, .int .i64 (dn + 1)] 30)))
  clear H47
  have H57 := Lib.hid (H49.out.step (al u5 (.cells #[.int .i64 T1, .slice a2 A1.length c2, .int .i64 b, .slice v2 V1.length d2, .int .i64 (dn + 1)] 30)))
  clear H49
  have H58 := Lib.hid (H50.out.step (al u5 (.cells #[.int .i64 T1, .slice a2 A1.length c2, .int .i64 b, .slice v2 V1.length d2, .int .i64 (dn + 1)] 30)))
  clear H50
  have H59 := Lib.hid (keep2 (al u5 (.cells #[.int .i64 T1, .slice a2 A1.length c2, .int .i64 b, .slice v2 V1.length d2, .int .i64 (dn + 1)] 30)) H48.out)
  clear H48
  have H60 := Lib.hid (Cs.new u5 (u5.heap.size) #[.int .i64 T1, .slice a2 A1.length c2, .int .i64 b, .slice v2 V1.length d2, .int .i64 (dn + 1)] 30 (by simp))
  have xR20 : (u5.alloc (.cells #[.int .i64 T1, .slice a2 A1.length c2, .int .i64 b, .slice v2 V1.length d2, .int .i64 (dn + 1)] 30)).cell? ⟨(u5.heap.size), 0, none⟩ = some (.int .i64 T1) := H60.out.c 0 rfl
  have xR21 : (u5.alloc (.cells #[.int .i64 T1, .slice a2 A1.length c2, .int .i64 b, .slice v2 V1.length d2, .int .i64 (dn + 1)] 30)).cell? ⟨(u5.heap.size), 1, none⟩ = some (.slice a2 A1.length c2) := H60.out.c 1 rfl
  have xR22 : (u5.alloc (.cells #[.int .i64 T1, .slice a2 A1.length c2, .int .i64 b, .slice v2 V1.length d2, .int .i64 (dn + 1)] 30)).cell? ⟨(u5.heap.size), 2, none⟩ = some (.int .i64 b) := H60.out.c 2 rfl
  have xR23 : (u5.alloc (.cells #[.int .i64 T1, .slice a2 A1.length c2, .int .i64 b, .slice v2 V1.length d2, .int .i64 (dn + 1)] 30)).cell? ⟨(u5.heap.size), 3, none⟩ = some (.slice v2 V1.length d2) := H60.out.c 3 rfl
  have xR24 : (u5.alloc (.cells #[.int .i64 T1, .slice a2 A1.length c2, .int .i64 b, .slice v2 V1.length d2, .int .i64 (dn + 1)] 30)).cell? ⟨(u5.heap.size), 4, none⟩ = some (.int .i64 (dn + 1)) := H60.out.c 4 rfl
  have zR2 : (u5.heap.size) < (u5.alloc (.cells #[.int .i64 T1, .slice a2 A1.length c2, .int .i64 b, .slice v2 V1.length d2, .int .i64 (dn + 1)] 30)).heap.size := H60.out.2.2
  have xR10 : (u5.alloc (.cells #[.int .i64 T1, .slice a2 A1.length c2, .int .i64 b, .slice v2 V1.length d2, .int .i64 (dn + 1)] 30)).cell? ⟨(u4.heap.size), 0, none⟩ = some (.int .i64 T1) := H56.out.c 0 rfl
  have xR11 : (u5.alloc (.cells #[.int .i64 T1, .slice a2 A1.length c2, .int .i64 b, .slice v2 V1.length d2, .int .i64 (dn + 1)] 30)).cell? ⟨(u4.heap.size), 1, none⟩ = some (.slice a1 A1.length c1) := H56.out.c 1 rfl
  have xR12 : (u5.alloc (.cells #[.int .i64 T1, .slice a2 A1.length c2, .int .i64 b, .slice v2 V1.length d2, .int .i64 (dn + 1)] 30)).cell? ⟨(u4.heap.size), 2, none⟩ = some (.int .i64 b) := H56.out.c 2 rfl
  have xR13 : (u5.alloc (.cells #[.int .i64 T1, .slice a2 A1.length c2, .int .i64 b, .slice v2 V1.length d2, .int .i64 (dn + 1)] 30)).cell? ⟨(u4.heap.size), 3, none⟩ = some (.slice v1 l.length d1) := H56.out.c 3 rfl
  have xR14 : (u5.alloc (.cells #[.int .i64 T1, .slice a2 A1.length c2, .int .i64 b, .slice v2 V1.length d2, .int .i64 (dn + 1)] 30)).cell? ⟨(u4.heap.size), 4, none⟩ = some (.int .i64 (dn + 1)) := H56.out.c 4 rfl
  have zR1 : (u4.heap.size) < (u5.alloc (.cells #[.int .i64 T1, .slice a2 A1.length c2, .int .i64 b, .slice v2 V1.length d2, .int .i64 (dn + 1)] 30)).heap.size := H56.out.2.2
  have xP0 : (u5.alloc (.cells #[.int .i64 T1, .slice a2 A1.length c2, .int .i64 b, .slice v2 V1.length d2, .int .i64 (dn + 1)] 30)).cell? ⟨(w.heap.size + 1 + 1), 0, none⟩ = some (.int .i64 a) := H53.out.c 0 rfl
  have xP1 : (u5.alloc (.cells #[.int .i64 T1, .slice a2 A1.length c2, .int .i64 b, .slice v2 V1.length d2, .int .i64 (dn + 1)] 30)).cell? ⟨(w.heap.size + 1 + 1), 1, none⟩ = some (.int .i64 pb) := H53.out.c 1 rfl
  have xP2 : (u5.alloc (.cells #[.int .i64 T1, .slice a2 A1.length c2, .int .i64 b, .slice v2 V1.length d2, .int .i64 (dn + 1)] 30)).cell? ⟨(w.heap.size + 1 + 1), 2, none⟩ = some (.int .i64 pc) := H53.out.c 2 rfl
  have xP3 : (u5.alloc (.cells #[.int .i64 T1, .slice a2 A1.length c2, .int .i64 b, .slice v2 V1.length d2, .int .i64 (dn + 1)] 30)).cell? ⟨(w.heap.size + 1 + 1), 3, none⟩ = some (.int .i64 pd) := H53.out.c 3 rfl
  have zP : (w.heap.size + 1 + 1) < (u5.alloc (.cells #[.int .i64 T1, .slice a2 A1.length c2, .int .i64 b, .slice v2 V1.length d2, .int .i64 (dn + 1)] 30)).heap.size := H53.out.2.2
  have xR0 : (u5.alloc (.cells #[.int .i64 T1, .slice a2 A1.length c2, .int .i64 b, .slice v2 V1.length d2, .int .i64 (dn + 1)] 30)).cell? ⟨(w.heap.size), 0, none⟩ = some (.int .i64 t) := H51.out.c 0 rfl
  have xR1 : (u5.alloc (.cells #[.int .i64 T1, .slice a2 A1.length c2, .int .i64 b, .slice v2 V1.length d2, .int .i64 (dn + 1)] 30)).cell? ⟨(w.heap.size), 1, none⟩ = some (.slice sa L.length sc) := H51.out.c 1 rfl
  have xR2 : (u5.alloc (.cells #[.int .i64 T1, .slice a2 A1.length c2, .int .i64 b, .slice v2 V1.length d2, .int .i64 (dn + 1)] 30)).cell? ⟨(w.heap.size), 2, none⟩ = some (.int .i64 f) := H51.out.c 2 rfl
  have xR3 : (u5.alloc (.cells #[.int .i64 T1, .slice a2 A1.length c2, .int .i64 b, .slice v2 V1.length d2, .int .i64 (dn + 1)] 30)).cell? ⟨(w.heap.size), 3, none⟩ = some (.slice va l.length vc) := H51.out.c 3 rfl
  have xR4 : (u5.alloc (.cells #[.int .i64 T1, .slice a2 A1.length c2, .int .i64 b, .slice v2 V1.length d2, .int .i64 (dn + 1)] 30)).cell? ⟨(w.heap.size), 4, none⟩ = some (.int .i64 dn) := H51.out.c 4 rfl
  have zR : (w.heap.size) < (u5.alloc (.cells #[.int .i64 T1, .slice a2 A1.length c2, .int .i64 b, .slice v2 V1.length d2, .int .i64 (dn + 1)] 30)).heap.size := H51.out.2.2
  have xO0 : (u5.alloc (.cells #[.int .i64 T1, .slice a2 A1.length c2, .int .i64 b, .slice v2 V1.length d2, .int .i64 (dn + 1)] 30)).cell? ⟨(w.heap.size + 1), 0, none⟩ = some (.int .i64 a) := H52.out.c 0 rfl
  have xO1 : (u5.alloc (.cells #[.int .i64 T1, .slice a2 A1.length c2, .int .i64 b, .slice v2 V1.length d2, .int .i64 (dn + 1)] 30)).cell? ⟨(w.heap.size + 1), 1, none⟩ = some (.int .i64 b) := H52.out.c 1 rfl
  have xO2 : (u5.alloc (.cells #[.int .i64 T1, .slice a2 A1.length c2, .int .i64 b, .slice v2 V1.length d2, .int .i64 (dn + 1)] 30)).cell? ⟨(w.heap.size + 1), 2, none⟩ = some (.int .i64 c) := H52.out.c 2 rfl
  have xO3 : (u5.alloc (.cells #[.int .i64 T1, .slice a2 A1.length c2, .int .i64 b, .slice v2 V1.length d2, .int .i64 (dn + 1)] 30)).cell? ⟨(w.heap.size + 1), 3, none⟩ = some (.int .i64 d) := H52.out.c 3 rfl
  have zO : (w.heap.size + 1) < (u5.alloc (.cells #[.int .i64 T1, .slice a2 A1.length c2, .int .i64 b, .slice v2 V1.length d2, .int .i64 (dn + 1)] 30)).heap.size := H52.out.2.2
  go_wp2_with fail
  refine (rorder_any a pb pc pd _ HOP.out _).mono ?_
  rintro e u6 ⟨rfl, b6⟩
  clear xR20 xR21 xR22 xR23 xR24 zR2 xR10 xR11 xR12 xR13 xR14 zR1 xP0 xP1 xP2 xP3 zP xR0 xR1 xR2 xR3 xR4 zR xO0 xO1 xO2 xO3 zO
  have H61 := Lib.hid (H51.out.step b6)
  clear H51
  have H62 := Lib.hid (H52.out.step b6)
  clear H52
  have H63 := Lib.hid (H53.out.step b6)
  clear H53
  have H64 := Lib.hid (H54.out.step b6)
  clear H54
  have H65 := Lib.hid (H55.out.step b6)
  clear H55
  have H66 := Lib.hid (H56.out.step b6)
  clear H56
  have H67 := Lib.hid (H57.out.step b6)
  clear H57
  have H68 := Lib.hid (H58.out.step b6)
  clear H58
  have H69 := Lib.hid (H60.out.step b6)
  clear H60
  have H70 := Lib.hid (keep2 b6 H59.out)
  clear H59
  clear b6
  have xR20 : u6.cell? ⟨(u5.heap.size), 0, none⟩ = some (.int .i64 T1) := H69.out.c 0 rfl
  have xR21 : u6.cell? ⟨(u5.heap.size), 1, none⟩ = some (.slice a2 A1.length c2) := H69.out.c 1 rfl
  have xR22 : u6.cell? ⟨(u5.heap.size), 2, none⟩ = some (.int .i64 b) := H69.out.c 2 rfl
  have xR23 : u6.cell? ⟨(u5.heap.size), 3, none⟩ = some (.slice v2 V1.length d2) := H69.out.c 3 rfl
  have xR24 : u6.cell? ⟨(u5.heap.size), 4, none⟩ = some (.int .i64 (dn + 1)) := H69.out.c 4 rfl
  have zR2 : (u5.heap.size) < u6.heap.size := H69.out.2.2
  have xR10 : u6.cell? ⟨(u4.heap.size), 0, none⟩ = some (.int .i64 T1) := H66.out.c 0 rfl
  have xR11 : u6.cell? ⟨(u4.heap.size), 1, none⟩ = some (.slice a1 A1.length c1) := H66.out.c 1 rfl
  have xR12 : u6.cell? ⟨(u4.heap.size), 2, none⟩ = some (.int .i64 b) := H66.out.c 2 rfl
  have xR13 : u6.cell? ⟨(u4.heap.size), 3, none⟩ = some (.slice v1 l.length d1) := H66.out.c 3 rfl
  have xR14 : u6.cell? ⟨(u4.heap.size), 4, none⟩ = some (.int .i64 (dn + 1)) := H66.out.c 4 rfl
  have zR1 : (u4.heap.size) < u6.heap.size := H66.out.2.2
  have xP0 : u6.cell? ⟨(w.heap.size + 1 + 1), 0, none⟩ = some (.int .i64 a) := H63.out.c 0 rfl
  have xP1 : u6.cell? ⟨(w.heap.size + 1 + 1), 1, none⟩ = some (.int .i64 pb) := H63.out.c 1 rfl
  have xP2 : u6.cell? ⟨(w.heap.size + 1 + 1), 2, none⟩ = some (.int .i64 pc) := H63.out.c 2 rfl
  have xP3 : u6.cell? ⟨(w.heap.size + 1 + 1), 3, none⟩ = some (.int .i64 pd) := H63.out.c 3 rfl
  have zP : (w.heap.size + 1 + 1) < u6.heap.size := H63.out.2.2
  have xR0 : u6.cell? ⟨(w.heap.size), 0, none⟩ = some (.int .i64 t) := H61.out.c 0 rfl
  have xR1 : u6.cell? ⟨(w.heap.size), 1, none⟩ = some (.slice sa L.length sc) := H61.out.c 1 rfl
  have xR2 : u6.cell? ⟨(w.heap.size), 2, none⟩ = some (.int .i64 f) := H61.out.c 2 rfl
  have xR3 : u6.cell? ⟨(w.heap.size), 3, none⟩ = some (.slice va l.length vc) := H61.out.c 3 rfl
  have xR4 : u6.cell? ⟨(w.heap.size), 4, none⟩ = some (.int .i64 dn) := H61.out.c 4 rfl
  have zR : (w.heap.size) < u6.heap.size := H61.out.2.2
  have xO0 : u6.cell? ⟨(w.heap.size + 1), 0, none⟩ = some (.int .i64 a) := H62.out.c 0 rfl
  have xO1 : u6.cell? ⟨(w.heap.size + 1), 1, none⟩ = some (.int .i64 b) := H62.out.c 1 rfl
  have xO2 : u6.cell? ⟨(w.heap.size + 1), 2, none⟩ = some (.int .i64 c) := H62.out.c 2 rfl
  have xO3 : u6.cell? ⟨(w.heap.size + 1), 3, none⟩ = some (.int .i64 d) := H62.out.c 3 rfl
  have zO : (w.heap.size + 1) < u6.heap.size := H62.out.2.2
  go_wp2_with fail
  have hI2 : IntsAt u6 (.slice v2 l.length d2) V1 := by have h := H68.out; rw [HVL.out] at h; exact h
  try rw [HVL.out]
  refine (samer_any T1 b (dn + 1) A1 V1 l.length _ _ _ _ _ _ _ _ _ H64.out H65.out H67.out hI2).mono ?_
  rintro e u7 ⟨rfl, b7⟩
  clear xR20 xR21 xR22 xR23 xR24 zR2 xR10 xR11 xR12 xR13 xR14 zR1 xP0 xP1 xP2 xP3 zP xR0 xR1 xR2 xR3 xR4 zR xO0 xO1 xO2 xO3 zO
  have H71 := Lib.hid (H61.out.step b7)
  clear H61
  have H72 := Lib.hid (H62.out.step b7)
  clear H62
  have H73 := Lib.hid (H63.out.step b7)
  clear H63
  have H74 := Lib.hid (H64.out.step b7)
  clear H64
  have H75 := Lib.hid (H65.out.step b7)
  clear H65
  have H76 := Lib.hid (H66.out.step b7)
  clear H66
  have H77 := Lib.hid (H67.out.step b7)
  clear H67
  have H78 := Lib.hid (H68.out.step b7)
  clear H68
  have H79 := Lib.hid (H69.out.step b7)
  clear H69
  have H80 := Lib.hid (keep2 b7 H70.out)
  clear H70
  clear b7
  clear hI2
  have xR20 : u7.cell? ⟨(u5.heap.size), 0, none⟩ = some (.int .i64 T1) := H79.out.c 0 rfl
  have xR21 : u7.cell? ⟨(u5.heap.size), 1, none⟩ = some (.slice a2 A1.length c2) := H79.out.c 1 rfl
  have xR22 : u7.cell? ⟨(u5.heap.size), 2, none⟩ = some (.int .i64 b) := H79.out.c 2 rfl
  have xR23 : u7.cell? ⟨(u5.heap.size), 3, none⟩ = some (.slice v2 V1.length d2) := H79.out.c 3 rfl
  have xR24 : u7.cell? ⟨(u5.heap.size), 4, none⟩ = some (.int .i64 (dn + 1)) := H79.out.c 4 rfl
  have zR2 : (u5.heap.size) < u7.heap.size := H79.out.2.2
  have xR10 : u7.cell? ⟨(u4.heap.size), 0, none⟩ = some (.int .i64 T1) := H76.out.c 0 rfl
  have xR11 : u7.cell? ⟨(u4.heap.size), 1, none⟩ = some (.slice a1 A1.length c1) := H76.out.c 1 rfl
  have xR12 : u7.cell? ⟨(u4.heap.size), 2, none⟩ = some (.int .i64 b) := H76.out.c 2 rfl
  have xR13 : u7.cell? ⟨(u4.heap.size), 3, none⟩ = some (.slice v1 l.length d1) := H76.out.c 3 rfl
  have xR14 : u7.cell? ⟨(u4.heap.size), 4, none⟩ = some (.int .i64 (dn + 1)) := H76.out.c 4 rfl
  have zR1 : (u4.heap.size) < u7.heap.size := H76.out.2.2
  have xP0 : u7.cell? ⟨(w.heap.size + 1 + 1), 0, none⟩ = some (.int .i64 a) := H73.out.c 0 rfl
  have xP1 : u7.cell? ⟨(w.heap.size + 1 + 1), 1, none⟩ = some (.int .i64 pb) := H73.out.c 1 rfl
  have xP2 : u7.cell? ⟨(w.heap.size + 1 + 1), 2, none⟩ = some (.int .i64 pc) := H73.out.c 2 rfl
  have xP3 : u7.cell? ⟨(w.heap.size + 1 + 1), 3, none⟩ = some (.int .i64 pd) := H73.out.c 3 rfl
  have zP : (w.heap.size + 1 + 1) < u7.heap.size := H73.out.2.2
  have xR0 : u7.cell? ⟨(w.heap.size), 0, none⟩ = some (.int .i64 t) := H71.out.c 0 rfl
  have xR1 : u7.cell? ⟨(w.heap.size), 1, none⟩ = some (.slice sa L.length sc) := H71.out.c 1 rfl
  have xR2 : u7.cell? ⟨(w.heap.size), 2, none⟩ = some (.int .i64 f) := H71.out.c 2 rfl
  have xR3 : u7.cell? ⟨(w.heap.size), 3, none⟩ = some (.slice va l.length vc) := H71.out.c 3 rfl
  have xR4 : u7.cell? ⟨(w.heap.size), 4, none⟩ = some (.int .i64 dn) := H71.out.c 4 rfl
  have zR : (w.heap.size) < u7.heap.size := H71.out.2.2
  have xO0 : u7.cell? ⟨(w.heap.size + 1), 0, none⟩ = some (.int .i64 a) := H72.out.c 0 rfl
  have xO1 : u7.cell? ⟨(w.heap.size + 1), 1, none⟩ = some (.int .i64 b) := H72.out.c 1 rfl
  have xO2 : u7.cell? ⟨(w.heap.size + 1), 2, none⟩ = some (.int .i64 c) := H72.out.c 2 rfl
  have xO3 : u7.cell? ⟨(w.heap.size + 1), 3, none⟩ = some (.int .i64 d) := H72.out.c 3 rfl
  have zO : (w.heap.size + 1) < u7.heap.size := H72.out.2.2
  clear H79
  clear H77
  clear H78
  clear H73
  clear H74
  clear H75
  have HZ3 := Lib.hid (show (u4.heap.size) < u7.heap.size from H76.out.2.2)
  have HZ4 := Lib.hid (show w.heap.size + 1 < u7.heap.size from H72.out.2.2)
  have CS := Cs.new u7 u7.heap.size #[.int .i64 t, .slice sa L.length sc, .int .i64 f, .slice va l.length vc, .int .i64 dn] 30 (by simp)
  have xs0 : (u7.alloc (.cells #[.int .i64 t, .slice sa L.length sc, .int .i64 f, .slice va l.length vc, .int .i64 dn] 30)).cell? ⟨u7.heap.size, 0, none⟩ = some (.int .i64 t) := CS.c 0 rfl
  have ys0 : (u7.alloc (.cells #[.int .i64 t, .slice sa L.length sc, .int .i64 f, .slice va l.length vc, .int .i64 dn] 30)).frozen? ⟨u7.heap.size, 0, none⟩ = false := CS.f 0 (by simp)
  have xs1 : (u7.alloc (.cells #[.int .i64 t, .slice sa L.length sc, .int .i64 f, .slice va l.length vc, .int .i64 dn] 30)).cell? ⟨u7.heap.size, 1, none⟩ = some (.slice sa L.length sc) := CS.c 1 rfl
  have ys1 : (u7.alloc (.cells #[.int .i64 t, .slice sa L.length sc, .int .i64 f, .slice va l.length vc, .int .i64 dn] 30)).frozen? ⟨u7.heap.size, 1, none⟩ = false := CS.f 1 (by simp)
  have xs2 : (u7.alloc (.cells #[.int .i64 t, .slice sa L.length sc, .int .i64 f, .slice va l.length vc, .int .i64 dn] 30)).cell? ⟨u7.heap.size, 2, none⟩ = some (.int .i64 f) := CS.c 2 rfl
  have ys2 : (u7.alloc (.cells #[.int .i64 t, .slice sa L.length sc, .int .i64 f, .slice va l.length vc, .int .i64 dn] 30)).frozen? ⟨u7.heap.size, 2, none⟩ = false := CS.f 2 (by simp)
  have xs3 : (u7.alloc (.cells #[.int .i64 t, .slice sa L.length sc, .int .i64 f, .slice va l.length vc, .int .i64 dn] 30)).cell? ⟨u7.heap.size, 3, none⟩ = some (.slice va l.length vc) := CS.c 3 rfl
  have ys3 : (u7.alloc (.cells #[.int .i64 t, .slice sa L.length sc, .int .i64 f, .slice va l.length vc, .int .i64 dn] 30)).frozen? ⟨u7.heap.size, 3, none⟩ = false := CS.f 3 (by simp)
  have xs4 : (u7.alloc (.cells #[.int .i64 t, .slice sa L.length sc, .int .i64 f, .slice va l.length vc, .int .i64 dn] 30)).cell? ⟨u7.heap.size, 4, none⟩ = some (.int .i64 dn) := CS.c 4 rfl
  have ys4 : (u7.alloc (.cells #[.int .i64 t, .slice sa L.length sc, .int .i64 f, .slice va l.length vc, .int .i64 dn] 30)).frozen? ⟨u7.heap.size, 4, none⟩ = false := CS.f 4 (by simp)
  have zs : u7.heap.size < (u7.alloc (.cells #[.int .i64 t, .slice sa L.length sc, .int .i64 f, .slice va l.length vc, .int .i64 dn] 30)).heap.size := CS.2.2
  clear CS
  have xtO0 : (u7.alloc (.cells #[.int .i64 t, .slice sa L.length sc, .int .i64 f, .slice va l.length vc, .int .i64 dn] 30)).cell? ⟨(w.heap.size + 1), 0, none⟩ = some (.int .i64 a) := (H72.out.step (al u7 (.cells #[.int .i64 t, .slice sa L.length sc, .int .i64 f, .slice va l.length vc, .int .i64 dn] 30))).c 0 rfl
  have xtO1 : (u7.alloc (.cells #[.int .i64 t, .slice sa L.length sc, .int .i64 f, .slice va l.length vc, .int .i64 dn] 30)).cell? ⟨(w.heap.size + 1), 1, none⟩ = some (.int .i64 b) := (H72.out.step (al u7 (.cells #[.int .i64 t, .slice sa L.length sc, .int .i64 f, .slice va l.length vc, .int .i64 dn] 30))).c 1 rfl
  have xtO2 : (u7.alloc (.cells #[.int .i64 t, .slice sa L.length sc, .int .i64 f, .slice va l.length vc, .int .i64 dn] 30)).cell? ⟨(w.heap.size + 1), 2, none⟩ = some (.int .i64 c) := (H72.out.step (al u7 (.cells #[.int .i64 t, .slice sa L.length sc, .int .i64 f, .slice va l.length vc, .int .i64 dn] 30))).c 2 rfl
  have xtO3 : (u7.alloc (.cells #[.int .i64 t, .slice sa L.length sc, .int .i64 f, .slice va l.length vc, .int .i64 dn] 30)).cell? ⟨(w.heap.size + 1), 3, none⟩ = some (.int .i64 d) := (H72.out.step (al u7 (.cells #[.int .i64 t, .slice sa L.length sc, .int .i64 f, .slice va l.length vc, .int .i64 dn] 30))).c 3 rfl
  have ztO : (w.heap.size + 1) < (u7.alloc (.cells #[.int .i64 t, .slice sa L.length sc, .int .i64 f, .slice va l.length vc, .int .i64 dn] 30)).heap.size := (H72.out.step (al u7 (.cells #[.int .i64 t, .slice sa L.length sc, .int .i64 f, .slice va l.length vc, .int .i64 dn] 30))).2.2
  have xtR10 : (u7.alloc (.cells #[.int .i64 t, .slice sa L.length sc, .int .i64 f, .slice va l.length vc, .int .i64 dn] 30)).cell? ⟨(u4.heap.size), 0, none⟩ = some (.int .i64 T1) := (H76.out.step (al u7 (.cells #[.int .i64 t, .slice sa L.length sc, .int .i64 f, .slice va l.length vc, .int .i64 dn] 30))).c 0 rfl
  have xtR11 : (u7.alloc (.cells #[.int .i64 t, .slice sa L.length sc, .int .i64 f, .slice va l.length vc, .int .i64 dn] 30)).cell? ⟨(u4.heap.size), 1, none⟩ = some (.slice a1 A1.length c1) := (H76.out.step (al u7 (.cells #[.int .i64 t, .slice sa L.length sc, .int .i64 f, .slice va l.length vc, .int .i64 dn] 30))).c 1 rfl
  have xtR12 : (u7.alloc (.cells #[.int .i64 t, .slice sa L.length sc, .int .i64 f, .slice va l.length vc, .int .i64 dn] 30)).cell? ⟨(u4.heap.size), 2, none⟩ = some (.int .i64 b) := (H76.out.step (al u7 (.cells #[.int .i64 t, .slice sa L.length sc, .int .i64 f, .slice va l.length vc, .int .i64 dn] 30))).c 2 rfl
  have xtR13 : (u7.alloc (.cells #[.int .i64 t, .slice sa L.length sc, .int .i64 f, .slice va l.length vc, .int .i64 dn] 30)).cell? ⟨(u4.heap.size), 3, none⟩ = some (.slice v1 l.length d1) := (H76.out.step (al u7 (.cells #[.int .i64 t, .slice sa L.length sc, .int .i64 f, .slice va l.length vc, .int .i64 dn] 30))).c 3 rfl
  have xtR14 : (u7.alloc (.cells #[.int .i64 t, .slice sa L.length sc, .int .i64 f, .slice va l.length vc, .int .i64 dn] 30)).cell? ⟨(u4.heap.size), 4, none⟩ = some (.int .i64 (dn + 1)) := (H76.out.step (al u7 (.cells #[.int .i64 t, .slice sa L.length sc, .int .i64 f, .slice va l.length vc, .int .i64 dn] 30))).c 4 rfl
  have ztR1 : (u4.heap.size) < (u7.alloc (.cells #[.int .i64 t, .slice sa L.length sc, .int .i64 f, .slice va l.length vc, .int .i64 dn] 30)).heap.size := (H76.out.step (al u7 (.cells #[.int .i64 t, .slice sa L.length sc, .int .i64 f, .slice va l.length vc, .int .i64 dn] 30))).2.2
  have H81 := Lib.hid (H71.out.step (al u7 (.cells #[.int .i64 t, .slice sa L.length sc, .int .i64 (b + 1 + x), .slice va l.length vc, .int .i64 dn] 30)))
  clear H71
  have H82 := Lib.hid (H72.out.step (al u7 (.cells #[.int .i64 t, .slice sa L.length sc, .int .i64 (b + 1 + x), .slice va l.length vc, .int .i64 dn] 30)))
  clear H72
  have H83 := Lib.hid (H76.out.step (al u7 (.cells #[.int .i64 t, .slice sa L.length sc, .int .i64 (b + 1 + x), .slice va l.length vc, .int .i64 dn] 30)))
  clear H76
  have H84 := Lib.hid (keep2 (al u7 (.cells #[.int .i64 t, .slice sa L.length sc, .int .i64 (b + 1 + x), .slice va l.length vc, .int .i64 dn] 30)) H80.out)
  clear H80
  have H85 := Lib.hid (Cs.new u7 (u7.heap.size) #[.int .i64 t, .slice sa L.length sc, .int .i64 (b + 1 + x), .slice va l.length vc, .int .i64 dn] 30 (by simp))
  have w1 : wrap64 (b + 1) = b + 1 := IntWalk.wrap64_in _ (by have := (orB_iff HOB.out).2.1; omega)
  have w2 : wrap64 (b + 1 + x) = b + 1 + x := IntWalk.wrap64_in _ (by have := (orB_iff HOB.out).2.1; have := HX.out; omega)
  have w3 : wrap64 x = x := IntWalk.wrap64_in _ (by have := HX.out; omega)
  have m1 : decide (b + 1 + x > 1000000000) = false := by have := HFX.out; simp; omega
  have m2 : decide (1000000000 < b + 1 + x) = false := by have := HFX.out; simp; omega
  have xqS0 : (u7.alloc (.cells #[.int .i64 t, .slice sa L.length sc, .int .i64 (b + 1 + x), .slice va l.length vc, .int .i64 dn] 30)).cell? ⟨(u7.heap.size), 0, none⟩ = some (.int .i64 t) := H85.out.c 0 rfl
  have xqS1 : (u7.alloc (.cells #[.int .i64 t, .slice sa L.length sc, .int .i64 (b + 1 + x), .slice va l.length vc, .int .i64 dn] 30)).cell? ⟨(u7.heap.size), 1, none⟩ = some (.slice sa L.length sc) := H85.out.c 1 rfl
  have xqS2 : (u7.alloc (.cells #[.int .i64 t, .slice sa L.length sc, .int .i64 (b + 1 + x), .slice va l.length vc, .int .i64 dn] 30)).cell? ⟨(u7.heap.size), 2, none⟩ = some (.int .i64 (b + 1 + x)) := H85.out.c 2 rfl
  have xqS3 : (u7.alloc (.cells #[.int .i64 t, .slice sa L.length sc, .int .i64 (b + 1 + x), .slice va l.length vc, .int .i64 dn] 30)).cell? ⟨(u7.heap.size), 3, none⟩ = some (.slice va l.length vc) := H85.out.c 3 rfl
  have xqS4 : (u7.alloc (.cells #[.int .i64 t, .slice sa L.length sc, .int .i64 (b + 1 + x), .slice va l.length vc, .int .i64 dn] 30)).cell? ⟨(u7.heap.size), 4, none⟩ = some (.int .i64 dn) := H85.out.c 4 rfl
  have zqS : (u7.heap.size) < (u7.alloc (.cells #[.int .i64 t, .slice sa L.length sc, .int .i64 (b + 1 + x), .slice va l.length vc, .int .i64 dn] 30)).heap.size := H85.out.2.2
  have xqO0 : (u7.alloc (.cells #[.int .i64 t, .slice sa L.length sc, .int .i64 (b + 1 + x), .slice va l.length vc, .int .i64 dn] 30)).cell? ⟨(w.heap.size + 1), 0, none⟩ = some (.int .i64 a) := H82.out.c 0 rfl
  have xqO1 : (u7.alloc (.cells #[.int .i64 t, .slice sa L.length sc, .int .i64 (b + 1 + x), .slice va l.length vc, .int .i64 dn] 30)).cell? ⟨(w.heap.size + 1), 1, none⟩ = some (.int .i64 b) := H82.out.c 1 rfl
  have xqO2 : (u7.alloc (.cells #[.int .i64 t, .slice sa L.length sc, .int .i64 (b + 1 + x), .slice va l.length vc, .int .i64 dn] 30)).cell? ⟨(w.heap.size + 1), 2, none⟩ = some (.int .i64 c) := H82.out.c 2 rfl
  have xqO3 : (u7.alloc (.cells #[.int .i64 t, .slice sa L.length sc, .int .i64 (b + 1 + x), .slice va l.length vc, .int .i64 dn] 30)).cell? ⟨(w.heap.size + 1), 3, none⟩ = some (.int .i64 d) := H82.out.c 3 rfl
  have zqO : (w.heap.size + 1) < (u7.alloc (.cells #[.int .i64 t, .slice sa L.length sc, .int .i64 (b + 1 + x), .slice va l.length vc, .int .i64 dn] 30)).heap.size := H82.out.2.2
  have xqR10 : (u7.alloc (.cells #[.int .i64 t, .slice sa L.length sc, .int .i64 (b + 1 + x), .slice va l.length vc, .int .i64 dn] 30)).cell? ⟨(u4.heap.size), 0, none⟩ = some (.int .i64 T1) := H83.out.c 0 rfl
  have xqR11 : (u7.alloc (.cells #[.int .i64 t, .slice sa L.length sc, .int .i64 (b + 1 + x), .slice va l.length vc, .int .i64 dn] 30)).cell? ⟨(u4.heap.size), 1, none⟩ = some (.slice a1 A1.length c1) := H83.out.c 1 rfl
  have xqR12 : (u7.alloc (.cells #[.int .i64 t, .slice sa L.length sc, .int .i64 (b + 1 + x), .slice va l.length vc, .int .i64 dn] 30)).cell? ⟨(u4.heap.size), 2, none⟩ = some (.int .i64 b) := H83.out.c 2 rfl
  have xqR13 : (u7.alloc (.cells #[.int .i64 t, .slice sa L.length sc, .int .i64 (b + 1 + x), .slice va l.length vc, .int .i64 dn] 30)).cell? ⟨(u4.heap.size), 3, none⟩ = some (.slice v1 l.length d1) := H83.out.c 3 rfl
  have xqR14 : (u7.alloc (.cells #[.int .i64 t, .slice sa L.length sc, .int .i64 (b + 1 + x), .slice va l.length vc, .int .i64 dn] 30)).cell? ⟨(u4.heap.size), 4, none⟩ = some (.int .i64 (dn + 1)) := H83.out.c 4 rfl
  have zqR1 : (u4.heap.size) < (u7.alloc (.cells #[.int .i64 t, .slice sa L.length sc, .int .i64 (b + 1 + x), .slice va l.length vc, .int .i64 dn] 30)).heap.size := H83.out.2.2
  go_wp2_with fail
  obtain ⟨W3, hW3⟩ : ∃ z, (u7.alloc (.cells #[.int .i64 t, .slice sa L.length sc, .int .i64 (b + 1 + x), .slice va l.length vc, .int .i64 dn] 30)) = z := ⟨_, rfl⟩
  rw [hW3]
  rw [hW3] at H81
  rw [hW3] at H82
  rw [hW3] at H83
  rw [hW3] at H85
  rw [hW3] at H84
  clear hW3 xR20 xR21 xR22 xR23 xR24 zR2 xR10 xR11 xR12 xR13 xR14 zR1 xP0 xP1 xP2 xP3 zP xR0 xR1 xR2 xR3 xR4 zR xO0 xO1 xO2 xO3 zO xs0 ys0 xs1 ys1 xs2 ys2 xs3 ys3 xs4 ys4 zs xtO0 xtO1 xtO2 xtO3 ztO xtR10 xtR11 xtR12 xtR13 xtR14 ztR1 xqS0 xqS1 xqS2 xqS3 xqS4 zqS xqO0 xqO1 xqO2 xqO3 zqO xqR10 xqR11 xqR12 xqR13 xqR14 zqR1
  refine (receive_is HRW3.out _ _ _ (HS.out.step H84.out) (HV.out.step H84.out) HLN.out.1 HLN.out.2).mono ?_
  rintro e u8 ⟨c3, d3, a3, v3, rfl, hq, hB, hI, b8, -, -⟩
  have H86 := Lib.hid (H81.out.step b8)
  clear H81
  have H87 := Lib.hid (H82.out.step b8)
  clear H82
  have H88 := Lib.hid (H83.out.step b8)
  clear H83
  have H89 := Lib.hid (H85.out.step b8)
  clear H85
  have H90 := Lib.hid (keep2 b8 H84.out)
  clear H84
  clear b8
  have H91 := Lib.hid (hB)
  have H92 := Lib.hid (hI)
  clear hB hI hq
  have H93 := Lib.hid (H86.out.step (al u8 (.cells #[.int .i64 t, .slice a3 L.length c3, .int .i64 (b + 1 + x), .slice v3 l.length d3, .int .i64 dn] 30)))
  clear H86
  have H94 := Lib.hid (H87.out.step (al u8 (.cells #[.int .i64 t, .slice a3 L.length c3, .int .i64 (b + 1 + x), .slice v3 l.length d3, .int .i64 dn] 30)))
  clear H87
  have H95 := Lib.hid (H88.out.step (al u8 (.cells #[.int .i64 t, .slice a3 L.length c3, .int .i64 (b + 1 + x), .slice v3 l.length d3, .int .i64 dn] 30)))
  clear H88
  have H96 := Lib.hid (H89.out.step (al u8 (.cells #[.int .i64 t, .slice a3 L.length c3, .int .i64 (b + 1 + x), .slice v3 l.length d3, .int .i64 dn] 30)))
  clear H89
  have H97 := Lib.hid (H91.out.step (al u8 (.cells #[.int .i64 t, .slice a3 L.length c3, .int .i64 (b + 1 + x), .slice v3 l.length d3, .int .i64 dn] 30)))
  clear H91
  have H98 := Lib.hid (H92.out.step (al u8 (.cells #[.int .i64 t, .slice a3 L.length c3, .int .i64 (b + 1 + x), .slice v3 l.length d3, .int .i64 dn] 30)))
  clear H92
  have H99 := Lib.hid (keep2 (al u8 (.cells #[.int .i64 t, .slice a3 L.length c3, .int .i64 (b + 1 + x), .slice v3 l.length d3, .int .i64 dn] 30)) H90.out)
  clear H90
  have H100 := Lib.hid (Cs.new u8 (u8.heap.size) #[.int .i64 t, .slice a3 L.length c3, .int .i64 (b + 1 + x), .slice v3 l.length d3, .int .i64 dn] 30 (by simp))
  have xR30 : (u8.alloc (.cells #[.int .i64 t, .slice a3 L.length c3, .int .i64 (b + 1 + x), .slice v3 l.length d3, .int .i64 dn] 30)).cell? ⟨(u8.heap.size), 0, none⟩ = some (.int .i64 t) := H100.out.c 0 rfl
  have xR31 : (u8.alloc (.cells #[.int .i64 t, .slice a3 L.length c3, .int .i64 (b + 1 + x), .slice v3 l.length d3, .int .i64 dn] 30)).cell? ⟨(u8.heap.size), 1, none⟩ = some (.slice a3 L.length c3) := H100.out.c 1 rfl
  have xR32 : (u8.alloc (.cells #[.int .i64 t, .slice a3 L.length c3, .int .i64 (b + 1 + x), .slice v3 l.length d3, .int .i64 dn] 30)).cell? ⟨(u8.heap.size), 2, none⟩ = some (.int .i64 (b + 1 + x)) := H100.out.c 2 rfl
  have xR33 : (u8.alloc (.cells #[.int .i64 t, .slice a3 L.length c3, .int .i64 (b + 1 + x), .slice v3 l.length d3, .int .i64 dn] 30)).cell? ⟨(u8.heap.size), 3, none⟩ = some (.slice v3 l.length d3) := H100.out.c 3 rfl
  have xR34 : (u8.alloc (.cells #[.int .i64 t, .slice a3 L.length c3, .int .i64 (b + 1 + x), .slice v3 l.length d3, .int .i64 dn] 30)).cell? ⟨(u8.heap.size), 4, none⟩ = some (.int .i64 dn) := H100.out.c 4 rfl
  have zR3 : (u8.heap.size) < (u8.alloc (.cells #[.int .i64 t, .slice a3 L.length c3, .int .i64 (b + 1 + x), .slice v3 l.length d3, .int .i64 dn] 30)).heap.size := H100.out.2.2
  have xS0 : (u8.alloc (.cells #[.int .i64 t, .slice a3 L.length c3, .int .i64 (b + 1 + x), .slice v3 l.length d3, .int .i64 dn] 30)).cell? ⟨(u7.heap.size), 0, none⟩ = some (.int .i64 t) := H96.out.c 0 rfl
  have xS1 : (u8.alloc (.cells #[.int .i64 t, .slice a3 L.length c3, .int .i64 (b + 1 + x), .slice v3 l.length d3, .int .i64 dn] 30)).cell? ⟨(u7.heap.size), 1, none⟩ = some (.slice sa L.length sc) := H96.out.c 1 rfl
  have xS2 : (u8.alloc (.cells #[.int .i64 t, .slice a3 L.length c3, .int .i64 (b + 1 + x), .slice v3 l.length d3, .int .i64 dn] 30)).cell? ⟨(u7.heap.size), 2, none⟩ = some (.int .i64 (b + 1 + x)) := H96.out.c 2 rfl
  have xS3 : (u8.alloc (.cells #[.int .i64 t, .slice a3 L.length c3, .int .i64 (b + 1 + x), .slice v3 l.length d3, .int .i64 dn] 30)).cell? ⟨(u7.heap.size), 3, none⟩ = some (.slice va l.length vc) := H96.out.c 3 rfl
  have xS4 : (u8.alloc (.cells #[.int .i64 t, .slice a3 L.length c3, .int .i64 (b + 1 + x), .slice v3 l.length d3, .int .i64 dn] 30)).cell? ⟨(u7.heap.size), 4, none⟩ = some (.int .i64 dn) := H96.out.c 4 rfl
  have zS : (u7.heap.size) < (u8.alloc (.cells #[.int .i64 t, .slice a3 L.length c3, .int .i64 (b + 1 + x), .slice v3 l.length d3, .int .i64 dn] 30)).heap.size := H96.out.2.2
  have xR10 : (u8.alloc (.cells #[.int .i64 t, .slice a3 L.length c3, .int .i64 (b + 1 + x), .slice v3 l.length d3, .int .i64 dn] 30)).cell? ⟨(u4.heap.size), 0, none⟩ = some (.int .i64 T1) := H95.out.c 0 rfl
  have xR11 : (u8.alloc (.cells #[.int .i64 t, .slice a3 L.length c3, .int .i64 (b + 1 + x), .slice v3 l.length d3, .int .i64 dn] 30)).cell? ⟨(u4.heap.size), 1, none⟩ = some (.slice a1 A1.length c1) := H95.out.c 1 rfl
  have xR12 : (u8.alloc (.cells #[.int .i64 t, .slice a3 L.length c3, .int .i64 (b + 1 + x), .slice v3 l.length d3, .int .i64 dn] 30)).cell? ⟨(u4.heap.size), 2, none⟩ = some (.int .i64 b) := H95.out.c 2 rfl
  have xR13 : (u8.alloc (.cells #[.int .i64 t, .slice a3 L.length c3, .int .i64 (b + 1 + x), .slice v3 l.length d3, .int .i64 dn] 30)).cell? ⟨(u4.heap.size), 3, none⟩ = some (.slice v1 l.length d1) := H95.out.c 3 rfl
  have xR14 : (u8.alloc (.cells #[.int .i64 t, .slice a3 L.length c3, .int .i64 (b + 1 + x), .slice v3 l.length d3, .int .i64 dn] 30)).cell? ⟨(u4.heap.size), 4, none⟩ = some (.int .i64 (dn + 1)) := H95.out.c 4 rfl
  have zR1 : (u4.heap.size) < (u8.alloc (.cells #[.int .i64 t, .slice a3 L.length c3, .int .i64 (b + 1 + x), .slice v3 l.length d3, .int .i64 dn] 30)).heap.size := H95.out.2.2
  have xR0 : (u8.alloc (.cells #[.int .i64 t, .slice a3 L.length c3, .int .i64 (b + 1 + x), .slice v3 l.length d3, .int .i64 dn] 30)).cell? ⟨(w.heap.size), 0, none⟩ = some (.int .i64 t) := H93.out.c 0 rfl
  have xR1 : (u8.alloc (.cells #[.int .i64 t, .slice a3 L.length c3, .int .i64 (b + 1 + x), .slice v3 l.length d3, .int .i64 dn] 30)).cell? ⟨(w.heap.size), 1, none⟩ = some (.slice sa L.length sc) := H93.out.c 1 rfl
  have xR2 : (u8.alloc (.cells #[.int .i64 t, .slice a3 L.length c3, .int .i64 (b + 1 + x), .slice v3 l.length d3, .int .i64 dn] 30)).cell? ⟨(w.heap.size), 2, none⟩ = some (.int .i64 f) := H93.out.c 2 rfl
  have xR3 : (u8.alloc (.cells #[.int .i64 t, .slice a3 L.length c3, .int .i64 (b + 1 + x), .slice v3 l.length d3, .int .i64 dn] 30)).cell? ⟨(w.heap.size), 3, none⟩ = some (.slice va l.length vc) := H93.out.c 3 rfl
  have xR4 : (u8.alloc (.cells #[.int .i64 t, .slice a3 L.length c3, .int .i64 (b + 1 + x), .slice v3 l.length d3, .int .i64 dn] 30)).cell? ⟨(w.heap.size), 4, none⟩ = some (.int .i64 dn) := H93.out.c 4 rfl
  have zR : (w.heap.size) < (u8.alloc (.cells #[.int .i64 t, .slice a3 L.length c3, .int .i64 (b + 1 + x), .slice v3 l.length d3, .int .i64 dn] 30)).heap.size := H93.out.2.2
  go_wp2_with fail
  refine (samer_any t (b + 1 + x) dn L l l.length _ _ _ _ _ _ _ _ _ H97.out H98.out (HS.out.step H99.out) (HV.out.step H99.out)).mono ?_
  rintro e u9 ⟨rfl, b9⟩
  clear xR30 xR31 xR32 xR33 xR34 zR3 xS0 xS1 xS2 xS3 xS4 zS xR10 xR11 xR12 xR13 xR14 zR1 xR0 xR1 xR2 xR3 xR4 zR
  have H101 := Lib.hid (H93.out.step b9)
  clear H93
  have H102 := Lib.hid (H94.out.step b9)
  clear H94
  have H103 := Lib.hid (H95.out.step b9)
  clear H95
  have H104 := Lib.hid (H96.out.step b9)
  clear H96
  have H105 := Lib.hid (H97.out.step b9)
  clear H97
  have H106 := Lib.hid (H98.out.step b9)
  clear H98
  have H107 := Lib.hid (H100.out.step b9)
  clear H100
  have H108 := Lib.hid (keep2 b9 H99.out)
  clear H99
  clear b9
  have xR10 : u9.cell? ⟨(u4.heap.size), 0, none⟩ = some (.int .i64 T1) := H103.out.c 0 rfl
  have xR11 : u9.cell? ⟨(u4.heap.size), 1, none⟩ = some (.slice a1 A1.length c1) := H103.out.c 1 rfl
  have xR12 : u9.cell? ⟨(u4.heap.size), 2, none⟩ = some (.int .i64 b) := H103.out.c 2 rfl
  have xR13 : u9.cell? ⟨(u4.heap.size), 3, none⟩ = some (.slice v1 l.length d1) := H103.out.c 3 rfl
  have xR14 : u9.cell? ⟨(u4.heap.size), 4, none⟩ = some (.int .i64 (dn + 1)) := H103.out.c 4 rfl
  have zR1 : (u4.heap.size) < u9.heap.size := H103.out.2.2
  have xR0 : u9.cell? ⟨(w.heap.size), 0, none⟩ = some (.int .i64 t) := H101.out.c 0 rfl
  have xR1 : u9.cell? ⟨(w.heap.size), 1, none⟩ = some (.slice sa L.length sc) := H101.out.c 1 rfl
  have xR2 : u9.cell? ⟨(w.heap.size), 2, none⟩ = some (.int .i64 f) := H101.out.c 2 rfl
  have xR3 : u9.cell? ⟨(w.heap.size), 3, none⟩ = some (.slice va l.length vc) := H101.out.c 3 rfl
  have xR4 : u9.cell? ⟨(w.heap.size), 4, none⟩ = some (.int .i64 dn) := H101.out.c 4 rfl
  have zR : (w.heap.size) < u9.heap.size := H101.out.2.2
  have k1 : decide (b ≥ f) = true := by have := HBF.out; simp; omega
  have k2 : decide (f ≤ b) = true := by have := HBF.out; simp; omega
  go_wp2
  go_ret
  exact ⟨rfl, H108.out⟩
end Go.Proofs.Ytkamkkjijjkfdaa
