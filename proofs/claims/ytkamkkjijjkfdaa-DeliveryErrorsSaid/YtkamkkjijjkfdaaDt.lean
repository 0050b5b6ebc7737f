/- Delivery: the law's walk of 'DeliveryErrors'. -/
import Derived.Test.YtkamkkjijjkfdaaDr
import Derived.Test.YtkamkkjijjkfdaaDn
import Derived.Test.YtkamkkjijjkfdaaDs
namespace Go.Proofs.Ytkamkkjijjkfdaa
open Go.RowKit

theorem confirm_to {nx q : Int} {P P1 : List Od} {r : Bool} (h1 : cfL nx q P r = P1) (hr : r = true ↔ SnP nx P) (xa : Option Addr) (xc : Nat) (w : World) (h : OdsAt w (.slice xa P.length xc) P) (h9 : P.length ≤ 100000) :
    Calls Try.prog 17 #[.agg #[.int .i64 nx, .slice xa P.length xc], .int .i64 q] w fun e w' => ∃ (uc : Nat) (ua : Option Addr), e = .returned (.agg #[.int .i64 nx, .slice ua P1.length uc]) ∧ OdsAt w' (.slice ua P1.length uc) P1 ∧ Below w.heap.size w w' := by
  subst h1
  exact (confirm_any nx q xa xc P r hr w h h9).mono fun e w' h => h
set_option maxRecDepth 100000 in
set_option maxHeartbeats 8000000 in
theorem errors_big (nx t f dn a b c d q : Int) (xa sa va : Option Addr) (xc sc vc : Nat) (P : List Od) (L : List Bool) (l : List Int) (w : World) (hp : OdsAt w (.slice xa P.length xc) P) (hs : BosAt w (.slice sa L.length sc) L) (hc : L.length ≤ sc) (hv : IntsAt w (.slice va l.length vc) l) (hsm : (decide (P.length ≤ 30) && (decide (l.length ≤ 30) && decide (L.length ≤ 30))) = false) :
    Calls Try.prog 8 #[.agg #[.int .i64 nx, .slice xa P.length xc], .agg #[.int .i64 t, .slice sa L.length sc, .int .i64 f, .slice va l.length vc, .int .i64 dn], .agg #[.int .i64 a, .int .i64 b, .int .i64 c, .int .i64 d], .int .i64 q] w fun e w' => e = .returned (.bool true) ∧ Below w.heap.size w w' := by
  have HP := Lib.hid hp
  have HS := Lib.hid hs
  have HV := Lib.hid hv
  have HCP := Lib.hid hc
  have HSM := Lib.hid hsm
  clear hp hs hv hc hsm
  have H0 := Lib.hid (Below.refl w.heap.size w)
  have H1 := Lib.hid (keep2 (al w (.cells #[.int .i64 nx, .slice xa P.length xc] 24)) H0.out)
  clear H0
  have H2 := Lib.hid (Cs.new w (w.heap.size) #[.int .i64 nx, .slice xa P.length xc] 24 (by simp))
  have H3 := Lib.hid (H2.out.step (al (w.alloc (.cells #[.int .i64 nx, .slice xa P.length xc] 24)) (.cells #[.int .i64 t, .slice sa L.length sc, .int .i64 f, .slice va l.length vc, .int .i64 dn] 30)))
  clear H2
  have H4 := Lib.hid (keep2 (al (w.alloc (.cells #[.int .i64 nx, .slice xa P.length xc] 24)) (.cells #[.int .i64 t, .slice sa L.length sc, .int .i64 f, .slice va l.length vc, .int .i64 dn] 30)) H1.out)
  clear H1
  have H5 := Lib.hid (Cs.new (w.alloc (.cells #[.int .i64 nx, .slice xa P.length xc] 24)) (w.heap.size + 1) #[.int .i64 t, .slice sa L.length sc, .int .i64 f, .slice va l.length vc, .int .i64 dn] 30 (by simp))
  have H6 := Lib.hid (H3.out.step (al ((w.alloc (.cells #[.int .i64 nx, .slice xa P.length xc] 24)).alloc (.cells #[.int .i64 t, .slice sa L.length sc, .int .i64 f, .slice va l.length vc, .int .i64 dn] 30)) (.cells #[.int .i64 a, .int .i64 b, .int .i64 c, .int .i64 d] 32)))
  clear H3
  have H7 := Lib.hid (H5.out.step (al ((w.alloc (.cells #[.int .i64 nx, .slice xa P.length xc] 24)).alloc (.cells #[.int .i64 t, .slice sa L.length sc, .int .i64 f, .slice va l.length vc, .int .i64 dn] 30)) (.cells #[.int .i64 a, .int .i64 b, .int .i64 c, .int .i64 d] 32)))
  clear H5
  have H8 := Lib.hid (keep2 (al ((w.alloc (.cells #[.int .i64 nx, .slice xa P.length xc] 24)).alloc (.cells #[.int .i64 t, .slice sa L.length sc, .int .i64 f, .slice va l.length vc, .int .i64 dn] 30)) (.cells #[.int .i64 a, .int .i64 b, .int .i64 c, .int .i64 d] 32)) H4.out)
  clear H4
  have H9 := Lib.hid (Cs.new ((w.alloc (.cells #[.int .i64 nx, .slice xa P.length xc] 24)).alloc (.cells #[.int .i64 t, .slice sa L.length sc, .int .i64 f, .slice va l.length vc, .int .i64 dn] 30)) (w.heap.size + 1 + 1) #[.int .i64 a, .int .i64 b, .int .i64 c, .int .i64 d] 32 (by simp))
  go_enter Try.func8, Try.ntmps8
  go_wp2_with fail
  refine (head_any _).mono ?_
  rintro e u1 ⟨rfl, b1⟩
  have H10 := Lib.hid (H6.out.step b1)
  clear H6
  have H11 := Lib.hid (H7.out.step b1)
  clear H7
  have H12 := Lib.hid (H9.out.step b1)
  clear H9
  have H13 := Lib.hid (keep2 b1 H8.out)
  clear H8
  clear b1
  have xS0 : u1.cell? ⟨(w.heap.size), 0, none⟩ = some (.int .i64 nx) := H10.out.c 0 rfl
  have xS1 : u1.cell? ⟨(w.heap.size), 1, none⟩ = some (.slice xa P.length xc) := H10.out.c 1 rfl
  have zS : (w.heap.size) < u1.heap.size := H10.out.2.2
  have xR0 : u1.cell? ⟨(w.heap.size + 1), 0, none⟩ = some (.int .i64 t) := H11.out.c 0 rfl
  have xR1 : u1.cell? ⟨(w.heap.size + 1), 1, none⟩ = some (.slice sa L.length sc) := H11.out.c 1 rfl
  have xR2 : u1.cell? ⟨(w.heap.size + 1), 2, none⟩ = some (.int .i64 f) := H11.out.c 2 rfl
  have xR3 : u1.cell? ⟨(w.heap.size + 1), 3, none⟩ = some (.slice va l.length vc) := H11.out.c 3 rfl
  have xR4 : u1.cell? ⟨(w.heap.size + 1), 4, none⟩ = some (.int .i64 dn) := H11.out.c 4 rfl
  have zR : (w.heap.size + 1) < u1.heap.size := H11.out.2.2
  go_wp2_with fail
  refine (small_any nx t f dn xa sa va P.length L.length l.length xc sc vc false HSM.out _).mono ?_
  rintro e u2 ⟨rfl, b2⟩
  clear xS0 xS1 zS xR0 xR1 xR2 xR3 xR4 zR
  have H14 := Lib.hid (H10.out.step b2)
  clear H10
  have H15 := Lib.hid (H11.out.step b2)
  clear H11
  have H16 := Lib.hid (H12.out.step b2)
  clear H12
  have H17 := Lib.hid (keep2 b2 H13.out)
  clear H13
  clear b2
  go_wp2
  go_ret
  exact ⟨rfl, H17.out⟩
set_option maxRecDepth 100000 in
set_option maxHeartbeats 8000000 in
theorem errors_e_no (nx t f dn a b c d q : Int) (r2 : Bool) (er : Int) (xa sa va : Option Addr) (xc sc vc : Nat) (P : List Od) (L : List Bool) (l : List Int) (w : World) (hp : OdsAt w (.slice xa P.length xc) P) (hs : BosAt w (.slice sa L.length sc) L) (hc : L.length ≤ sc) (hv : IntsAt w (.slice va l.length vc) l) (hsm : (decide (P.length ≤ 30) && (decide (l.length ≤ 30) && decide (L.length ≤ 30))) = true) (hrw : RW t L f l dn a b c d t L f l dn false er) (her : er ≠ 0) (hr : false = true ↔ SnP nx P) (hr2 : r2 = true ↔ SnP nx P) (h1 : cfL nx q P false = P) (h2 : cfL nx q P r2 = P) (hq1 : P.length ≤ 100000) :
    Calls Try.prog 8 #[.agg #[.int .i64 nx, .slice xa P.length xc], .agg #[.int .i64 t, .slice sa L.length sc, .int .i64 f, .slice va l.length vc, .int .i64 dn], .agg #[.int .i64 a, .int .i64 b, .int .i64 c, .int .i64 d], .int .i64 q] w fun e w' => e = .returned (.bool true) ∧ Below w.heap.size w w' := by
  have HP := Lib.hid hp
  have HS := Lib.hid hs
  have HV := Lib.hid hv
  have HCP := Lib.hid hc
  have HSM := Lib.hid hsm
  clear hp hs hv hc hsm
  have HLN := Lib.hid (show P.length ≤ 100000 ∧ L.length ≤ 100000 ∧ l.length ≤ 100000 by have := HSM.out; simp at this; omega)
  have HRW := Lib.hid hrw
  have HRR := Lib.hid hr
  have HR2 := Lib.hid hr2
  have HC1 := Lib.hid h1
  have HC2 := Lib.hid h2
  have HQ1 := Lib.hid hq1
  clear hrw hr hr2 h1 h2 hq1
  have q1 : (er != 0) = true := by simpa using her
  have q2 : decide (er = 0) = false := by simpa using her
  have q3 : (er == 0) = false := by simpa using her
  clear her
  have H0 := Lib.hid (Below.refl w.heap.size w)
  have H1 := Lib.hid (keep2 (al w (.cells #[.int .i64 nx, .slice xa P.length xc] 24)) H0.out)
  clear H0
  have H2 := Lib.hid (Cs.new w (w.heap.size) #[.int .i64 nx, .slice xa P.length xc] 24 (by simp))
  have H3 := Lib.hid (H2.out.step (al (w.alloc (.cells #[.int .i64 nx, .slice xa P.length xc] 24)) (.cells #[.int .i64 t, .slice sa L.length sc, .int .i64 f, .slice va l.length vc, .int .i64 dn] 30)))
  clear H2
  have H4 := Lib.hid (keep2 (al (w.alloc (.cells #[.int .i64 nx, .slice xa P.length xc] 24)) (.cells #[.int .i64 t, .slice sa L.length sc, .int .i64 f, .slice va l.length vc, .int .i64 dn] 30)) H1.out)
  clear H1
  have H5 := Lib.hid (Cs.new (w.alloc (.cells #[.int .i64 nx, .slice xa P.length xc] 24)) (w.heap.size + 1) #[.int .i64 t, .slice sa L.length sc, .int .i64 f, .slice va l.length vc, .int .i64 dn] 30 (by simp))
  have H6 := Lib.hid (H3.out.step (al ((w.alloc (.cells #[.int .i64 nx, .slice xa P.length xc] 24)).alloc (.cells #[.int .i64 t, .slice sa L.length sc, .int .i64 f, .slice va l.length vc, .int .i64 dn] 30)) (.cells #[.int .i64 a, .int .i64 b, .int .i64 c, .int .i64 d] 32)))
  clear H3
  have H7 := Lib.hid (H5.out.step (al ((w.alloc (.cells #[.int .i64 nx, .slice xa P.length xc] 24)).alloc (.cells #[.int .i64 t, .slice sa L.length sc, .int .i64 f, .slice va l.length vc, .int .i64 dn] 30)) (.cells #[.int .i64 a, .int .i64 b, .int .i64 c, .int .i64 d] 32)))
  clear H5
  have H8 := Lib.hid (keep2 (al ((w.alloc (.cells #[.int .i64 nx, .slice xa P.length xc] 24)).alloc (.cells #[.int .i64 t, .slice sa L.length sc, .int .i64 f, .slice va l.length vc, .int .i64 dn] 30)) (.cells #[.int .i64 a, .int .i64 b, .int .i64 c, .int .i64 d] 32)) H4.out)
  clear H4
  have H9 := Lib.hid (Cs.new ((w.alloc (.cells #[.int .i64 nx, .slice xa P.length xc] 24)).alloc (.cells #[.int .i64 t, .slice sa L.length sc, .int .i64 f, .slice va l.length vc, .int .i64 dn] 30)) (w.heap.size + 1 + 1) #[.int .i64 a, .int .i64 b, .int .i64 c, .int .i64 d] 32 (by simp))
  go_enter Try.func8, Try.ntmps8
  go_wp2_with fail
  refine (head_any _).mono ?_
  rintro e u1 ⟨rfl, b1⟩
  have H10 := Lib.hid (H6.out.step b1)
  clear H6
  have H11 := Lib.hid (H7.out.step b1)
  clear H7
  have H12 := Lib.hid (H9.out.step b1)
  clear H9
  have H13 := Lib.hid (keep2 b1 H8.out)
  clear H8
  clear b1
  have xS0 : u1.cell? ⟨(w.heap.size), 0, none⟩ = some (.int .i64 nx) := H10.out.c 0 rfl
  have xS1 : u1.cell? ⟨(w.heap.size), 1, none⟩ = some (.slice xa P.length xc) := H10.out.c 1 rfl
  have zS : (w.heap.size) < u1.heap.size := H10.out.2.2
  have xR0 : u1.cell? ⟨(w.heap.size + 1), 0, none⟩ = some (.int .i64 t) := H11.out.c 0 rfl
  have xR1 : u1.cell? ⟨(w.heap.size + 1), 1, none⟩ = some (.slice sa L.length sc) := H11.out.c 1 rfl
  have xR2 : u1.cell? ⟨(w.heap.size + 1), 2, none⟩ = some (.int .i64 f) := H11.out.c 2 rfl
  have xR3 : u1.cell? ⟨(w.heap.size + 1), 3, none⟩ = some (.slice va l.length vc) := H11.out.c 3 rfl
  have xR4 : u1.cell? ⟨(w.heap.size + 1), 4, none⟩ = some (.int .i64 dn) := H11.out.c 4 rfl
  have zR : (w.heap.size + 1) < u1.heap.size := H11.out.2.2
  go_wp2_with fail
  refine (small_any nx t f dn xa sa va P.length L.length l.length xc sc vc true HSM.out _).mono ?_
  rintro e u2 ⟨rfl, b2⟩
  clear xS0 xS1 zS xR0 xR1 xR2 xR3 xR4 zR
  have H14 := Lib.hid (H10.out.step b2)
  clear H10
  have H15 := Lib.hid (H11.out.step b2)
  clear H11
  have H16 := Lib.hid (H12.out.step b2)
  clear H12
  have H17 := Lib.hid (keep2 b2 H13.out)
  clear H13
  clear b2
  have xR0 : u2.cell? ⟨(w.heap.size + 1), 0, none⟩ = some (.int .i64 t) := H15.out.c 0 rfl
  have xR1 : u2.cell? ⟨(w.heap.size + 1), 1, none⟩ = some (.slice sa L.length sc) := H15.out.c 1 rfl
  have xR2 : u2.cell? ⟨(w.heap.size + 1), 2, none⟩ = some (.int .i64 f) := H15.out.c 2 rfl
  have xR3 : u2.cell? ⟨(w.heap.size + 1), 3, none⟩ = some (.slice va l.length vc) := H15.out.c 3 rfl
  have xR4 : u2.cell? ⟨(w.heap.size + 1), 4, none⟩ = some (.int .i64 dn) := H15.out.c 4 rfl
  have zR : (w.heap.size + 1) < u2.heap.size := H15.out.2.2
  have xO0 : u2.cell? ⟨(w.heap.size + 1 + 1), 0, none⟩ = some (.int .i64 a) := H16.out.c 0 rfl
  have xO1 : u2.cell? ⟨(w.heap.size + 1 + 1), 1, none⟩ = some (.int .i64 b) := H16.out.c 1 rfl
  have xO2 : u2.cell? ⟨(w.heap.size + 1 + 1), 2, none⟩ = some (.int .i64 c) := H16.out.c 2 rfl
  have xO3 : u2.cell? ⟨(w.heap.size + 1 + 1), 3, none⟩ = some (.int .i64 d) := H16.out.c 3 rfl
  have zO : (w.heap.size + 1 + 1) < u2.heap.size := H16.out.2.2
  go_wp2_with fail
  refine (receive_is HRW.out _ _ _ (HS.out.step H17.out) (HV.out.step H17.out) HLN.out.2.1 HLN.out.2.2).mono ?_
  rintro e u3 ⟨c1, d1, a1, v1, rfl, hq, hB, hI, b3, hG, hK⟩
  clear xR0 xR1 xR2 xR3 xR4 zR xO0 xO1 xO2 xO3 zO
  have H18 := Lib.hid (H14.out.step b3)
  clear H14
  have H19 := Lib.hid (H15.out.step b3)
  clear H15
  have H20 := Lib.hid (H16.out.step b3)
  clear H16
  have H21 := Lib.hid (keep2 b3 H17.out)
  clear H17
  clear b3
  clear hG hK hq
  have H22 := Lib.hid (hB)
  have H23 := Lib.hid (hI)
  clear hB hI
  have H24 := Lib.hid (H18.out.step (al u3 (.cells #[.int .i64 t, .slice a1 L.length c1, .int .i64 f, .slice v1 l.length d1, .int .i64 dn] 30)))
  clear H18
  have H25 := Lib.hid (H19.out.step (al u3 (.cells #[.int .i64 t, .slice a1 L.length c1, .int .i64 f, .slice v1 l.length d1, .int .i64 dn] 30)))
  clear H19
  have H26 := Lib.hid (H20.out.step (al u3 (.cells #[.int .i64 t, .slice a1 L.length c1, .int .i64 f, .slice v1 l.length d1, .int .i64 dn] 30)))
  clear H20
  have H27 := Lib.hid (H22.out.step (al u3 (.cells #[.int .i64 t, .slice a1 L.length c1, .int .i64 f, .slice v1 l.length d1, .int .i64 dn] 30)))
  clear H22
  have H28 := Lib.hid (H23.out.step (al u3 (.cells #[.int .i64 t, .slice a1 L.length c1, .int .i64 f, .slice v1 l.length d1, .int .i64 dn] 30)))
  clear H23
  have H29 := Lib.hid (keep2 (al u3 (.cells #[.int .i64 t, .slice a1 L.length c1, .int .i64 f, .slice v1 l.length d1, .int .i64 dn] 30)) H21.out)
  clear H21
  have H30 := Lib.hid (Cs.new u3 (u3.heap.size) #[.int .i64 t, .slice a1 L.length c1, .int .i64 f, .slice v1 l.length d1, .int .i64 dn] 30 (by simp))
  have xR10 : (u3.alloc (.cells #[.int .i64 t, .slice a1 L.length c1, .int .i64 f, .slice v1 l.length d1, .int .i64 dn] 30)).cell? ⟨(u3.heap.size), 0, none⟩ = some (.int .i64 t) := H30.out.c 0 rfl
  have xR11 : (u3.alloc (.cells #[.int .i64 t, .slice a1 L.length c1, .int .i64 f, .slice v1 l.length d1, .int .i64 dn] 30)).cell? ⟨(u3.heap.size), 1, none⟩ = some (.slice a1 L.length c1) := H30.out.c 1 rfl
  have xR12 : (u3.alloc (.cells #[.int .i64 t, .slice a1 L.length c1, .int .i64 f, .slice v1 l.length d1, .int .i64 dn] 30)).cell? ⟨(u3.heap.size), 2, none⟩ = some (.int .i64 f) := H30.out.c 2 rfl
  have xR13 : (u3.alloc (.cells #[.int .i64 t, .slice a1 L.length c1, .int .i64 f, .slice v1 l.length d1, .int .i64 dn] 30)).cell? ⟨(u3.heap.size), 3, none⟩ = some (.slice v1 l.length d1) := H30.out.c 3 rfl
  have xR14 : (u3.alloc (.cells #[.int .i64 t, .slice a1 L.length c1, .int .i64 f, .slice v1 l.length d1, .int .i64 dn] 30)).cell? ⟨(u3.heap.size), 4, none⟩ = some (.int .i64 dn) := H30.out.c 4 rfl
  have zR1 : (u3.heap.size) < (u3.alloc (.cells #[.int .i64 t, .slice a1 L.length c1, .int .i64 f, .slice v1 l.length d1, .int .i64 dn] 30)).heap.size := H30.out.2.2
  have xR0 : (u3.alloc (.cells #[.int .i64 t, .slice a1 L.length c1, .int .i64 f, .slice v1 l.length d1, .int .i64 dn] 30)).cell? ⟨(w.heap.size + 1), 0, none⟩ = some (.int .i64 t) := H25.out.c 0 rfl
  have xR1 : (u3.alloc (.cells #[.int .i64 t, .slice a1 L.length c1, .int .i64 f, .slice v1 l.length d1, .int .i64 dn] 30)).cell? ⟨(w.heap.size + 1), 1, none⟩ = some (.slice sa L.length sc) := H25.out.c 1 rfl
  have xR2 : (u3.alloc (.cells #[.int .i64 t, .slice a1 L.length c1, .int .i64 f, .slice v1 l.length d1, .int .i64 dn] 30)).cell? ⟨(w.heap.size + 1), 2, none⟩ = some (.int .i64 f) := H25.out.c 2 rfl
  have xR3 : (u3.alloc (.cells #[.int .i64 t, .slice a1 L.length c1, .int .i64 f, .slice v1 l.length d1, .int .i64 dn] 30)).cell? ⟨(w.heap.size + 1), 3, none⟩ = some (.slice va l.length vc) := H25.out.c 3 rfl
  have xR4 : (u3.alloc (.cells #[.int .i64 t, .slice a1 L.length c1, .int .i64 f, .slice v1 l.length d1, .int .i64 dn] 30)).cell? ⟨(w.heap.size + 1), 4, none⟩ = some (.int .i64 dn) := H25.out.c 4 rfl
  have zR : (w.heap.size + 1) < (u3.alloc (.cells #[.int .i64 t, .slice a1 L.length c1, .int .i64 f, .slice v1 l.length d1, .int .i64 dn] 30)).heap.size := H25.out.2.2
  go_wp2_with fail
  refine (samer_any t f dn L l l.length _ _ _ _ _ _ _ _ _ H27.out H28.out (HS.out.step H29.out) (HV.out.step H29.out)).mono ?_
  rintro e u4 ⟨rfl, b4⟩
  clear xR10 xR11 xR12 xR13 xR14 zR1 xR0 xR1 xR2 xR3 xR4 zR
  have H31 := Lib.hid (H24.out.step b4)
  clear H24
  have H32 := Lib.hid (H25.out.step b4)
  clear H25
  have H33 := Lib.hid (H26.out.step b4)
  clear H26
  have H34 := Lib.hid (H27.out.step b4)
  clear H27
  have H35 := Lib.hid (H28.out.step b4)
  clear H28
  have H36 := Lib.hid (H30.out.step b4)
  clear H30
  have H37 := Lib.hid (keep2 b4 H29.out)
  clear H29
  clear b4
  have xS0 : u4.cell? ⟨(w.heap.size), 0, none⟩ = some (.int .i64 nx) := H31.out.c 0 rfl
  have xS1 : u4.cell? ⟨(w.heap.size), 1, none⟩ = some (.slice xa P.length xc) := H31.out.c 1 rfl
  have zS : (w.heap.size) < u4.heap.size := H31.out.2.2
  go_wp2_with fail
  clear H36
  clear H34
  clear H35
  clear H32
  clear H33
  refine (confirm_to HC1.out (by have h := HRR.out; simpa using h) _ _ _ (HP.out.step H37.out) HLN.out.1).mono ?_
  rintro e u5 ⟨c2, a2, rfl, hO, b5⟩
  clear xS0 xS1 zS
  have H38 := Lib.hid (H31.out.step b5)
  clear H31
  have H39 := Lib.hid (keep2 b5 H37.out)
  clear H37
  clear b5
  have H40 := Lib.hid (hO)
  clear hO
  have H41 := Lib.hid (H38.out.step (al u5 (.cells #[.int .i64 nx, .slice a2 P.length c2] 24)))
  clear H38
  have H42 := Lib.hid (H40.out.step (al u5 (.cells #[.int .i64 nx, .slice a2 P.length c2] 24)))
  clear H40
  have H43 := Lib.hid (keep2 (al u5 (.cells #[.int .i64 nx, .slice a2 P.length c2] 24)) H39.out)
  clear H39
  have H44 := Lib.hid (Cs.new u5 (u5.heap.size) #[.int .i64 nx, .slice a2 P.length c2] 24 (by simp))
  have xS10 : (u5.alloc (.cells #[.int .i64 nx, .slice a2 P.length c2] 24)).cell? ⟨(u5.heap.size), 0, none⟩ = some (.int .i64 nx) := H44.out.c 0 rfl
  have xS11 : (u5.alloc (.cells #[.int .i64 nx, .slice a2 P.length c2] 24)).cell? ⟨(u5.heap.size), 1, none⟩ = some (.slice a2 P.length c2) := H44.out.c 1 rfl
  have zS1 : (u5.heap.size) < (u5.alloc (.cells #[.int .i64 nx, .slice a2 P.length c2] 24)).heap.size := H44.out.2.2
  go_wp2_with fail
  refine (confirm_to HC2.out HR2.out _ _ _ H42.out HQ1.out).mono ?_
  rintro e u6 ⟨c3, a3, rfl, hO, b6⟩
  clear xS10 xS11 zS1
  have H45 := Lib.hid (H41.out.step b6)
  clear H41
  have H46 := Lib.hid (H42.out.step b6)
  clear H42
  have H47 := Lib.hid (H44.out.step b6)
  clear H44
  have H48 := Lib.hid (keep2 b6 H43.out)
  clear H43
  clear b6
  have H49 := Lib.hid (hO)
  clear hO
  have H50 := Lib.hid (H45.out.step (al u6 (.cells #[.int .i64 nx, .slice a3 P.length c3] 24)))
  clear H45
  have H51 := Lib.hid (H46.out.step (al u6 (.cells #[.int .i64 nx, .slice a3 P.length c3] 24)))
  clear H46
  have H52 := Lib.hid (H47.out.step (al u6 (.cells #[.int .i64 nx, .slice a3 P.length c3] 24)))
  clear H47
  have H53 := Lib.hid (H49.out.step (al u6 (.cells #[.int .i64 nx, .slice a3 P.length c3] 24)))
  clear H49
  have H54 := Lib.hid (keep2 (al u6 (.cells #[.int .i64 nx, .slice a3 P.length c3] 24)) H48.out)
  clear H48
  have H55 := Lib.hid (Cs.new u6 (u6.heap.size) #[.int .i64 nx, .slice a3 P.length c3] 24 (by simp))
  have xS10 : (u6.alloc (.cells #[.int .i64 nx, .slice a3 P.length c3] 24)).cell? ⟨(u5.heap.size), 0, none⟩ = some (.int .i64 nx) := H52.out.c 0 rfl
  have xS11 : (u6.alloc (.cells #[.int .i64 nx, .slice a3 P.length c3] 24)).cell? ⟨(u5.heap.size), 1, none⟩ = some (.slice a2 P.length c2) := H52.out.c 1 rfl
  have zS1 : (u5.heap.size) < (u6.alloc (.cells #[.int .i64 nx, .slice a3 P.length c3] 24)).heap.size := H52.out.2.2
  have xS20 : (u6.alloc (.cells #[.int .i64 nx, .slice a3 P.length c3] 24)).cell? ⟨(u6.heap.size), 0, none⟩ = some (.int .i64 nx) := H55.out.c 0 rfl
  have xS21 : (u6.alloc (.cells #[.int .i64 nx, .slice a3 P.length c3] 24)).cell? ⟨(u6.heap.size), 1, none⟩ = some (.slice a3 P.length c3) := H55.out.c 1 rfl
  have zS2 : (u6.heap.size) < (u6.alloc (.cells #[.int .i64 nx, .slice a3 P.length c3] 24)).heap.size := H55.out.2.2
  go_wp2_with fail
  refine (sames_any nx _ _ _ _ P _ H51.out H53.out).mono ?_
  rintro e u7 ⟨rfl, b7⟩
  clear xS10 xS11 zS1 xS20 xS21 zS2
  have H56 := Lib.hid (H50.out.step b7)
  clear H50
  have H57 := Lib.hid (H51.out.step b7)
  clear H51
  have H58 := Lib.hid (H52.out.step b7)
  clear H52
  have H59 := Lib.hid (H53.out.step b7)
  clear H53
  have H60 := Lib.hid (H55.out.step b7)
  clear H55
  have H61 := Lib.hid (keep2 b7 H54.out)
  clear H54
  clear b7
  clear H60
  clear H59
  have xS0 : u7.cell? ⟨(w.heap.size), 0, none⟩ = some (.int .i64 nx) := H56.out.c 0 rfl
  have xS1 : u7.cell? ⟨(w.heap.size), 1, none⟩ = some (.slice xa P.length xc) := H56.out.c 1 rfl
  have zS : (w.heap.size) < u7.heap.size := H56.out.2.2
  have xS10 : u7.cell? ⟨(u5.heap.size), 0, none⟩ = some (.int .i64 nx) := H58.out.c 0 rfl
  have xS11 : u7.cell? ⟨(u5.heap.size), 1, none⟩ = some (.slice a2 P.length c2) := H58.out.c 1 rfl
  have zS1 : (u5.heap.size) < u7.heap.size := H58.out.2.2
  go_wp2_with fail
  refine (rsender_any nx xa xc P false (by have h := HRR.out; simpa using h) _ (HP.out.step H61.out)).mono ?_
  rintro e u8 ⟨rfl, b8⟩
  clear xS0 xS1 zS xS10 xS11 zS1
  have H62 := Lib.hid (H56.out.step b8)
  clear H56
  have H63 := Lib.hid (H57.out.step b8)
  clear H57
  have H64 := Lib.hid (H58.out.step b8)
  clear H58
  have H65 := Lib.hid (keep2 b8 H61.out)
  clear H61
  clear b8
  have xS0 : u8.cell? ⟨(w.heap.size), 0, none⟩ = some (.int .i64 nx) := H62.out.c 0 rfl
  have xS1 : u8.cell? ⟨(w.heap.size), 1, none⟩ = some (.slice xa P.length xc) := H62.out.c 1 rfl
  have zS : (w.heap.size) < u8.heap.size := H62.out.2.2
  have xS10 : u8.cell? ⟨(u5.heap.size), 0, none⟩ = some (.int .i64 nx) := H64.out.c 0 rfl
  have xS11 : u8.cell? ⟨(u5.heap.size), 1, none⟩ = some (.slice a2 P.length c2) := H64.out.c 1 rfl
  have zS1 : (u5.heap.size) < u8.heap.size := H64.out.2.2
  go_wp2_with fail
  refine (sames_any nx _ _ _ _ P _ H63.out (HP.out.step H65.out)).mono ?_
  rintro e u9 ⟨rfl, b9⟩
  clear xS0 xS1 zS xS10 xS11 zS1
  have H66 := Lib.hid (H62.out.step b9)
  clear H62
  have H67 := Lib.hid (H63.out.step b9)
  clear H63
  have H68 := Lib.hid (H64.out.step b9)
  clear H64
  have H69 := Lib.hid (keep2 b9 H65.out)
  clear H65
  clear b9
  go_wp2
  go_ret
  exact ⟨rfl, H69.out⟩
set_option maxRecDepth 100000 in
set_option maxHeartbeats 8000000 in
theorem errors_e_out (nx t f dn a b c d q : Int) (r2 : Bool) (er : Int) (xa sa va : Option Addr) (xc sc vc : Nat) (P : List Od) (L : List Bool) (l : List Int) (w : World) (hp : OdsAt w (.slice xa P.length xc) P) (hs : BosAt w (.slice sa L.length sc) L) (hc : L.length ≤ sc) (hv : IntsAt w (.slice va l.length vc) l) (hsm : (decide (P.length ≤ 30) && (decide (l.length ≤ 30) && decide (L.length ≤ 30))) = true) (hrw : RW t L f l dn a b c d t L f l dn false er) (her : er ≠ 0) (hr : true = true ↔ SnP nx P) (hr2 : r2 = true ↔ SnP nx P) (h1 : cfL nx q P true = P) (h2 : cfL nx q P r2 = P) (hq1 : P.length ≤ 100000) (hh : (P.any fun x => x.a == q) = false) :
    Calls Try.prog 8 #[.agg #[.int .i64 nx, .slice xa P.length xc], .agg #[.int .i64 t, .slice sa L.length sc, .int .i64 f, .slice va l.length vc, .int .i64 dn], .agg #[.int .i64 a, .int .i64 b, .int .i64 c, .int .i64 d], .int .i64 q] w fun e w' => e = .returned (.bool true) ∧ Below w.heap.size w w' := by
  have HP := Lib.hid hp
  have HS := Lib.hid hs
  have HV := Lib.hid hv
  have HCP := Lib.hid hc
  have HSM := Lib.hid hsm
  clear hp hs hv hc hsm
  have HLN := Lib.hid (show P.length ≤ 100000 ∧ L.length ≤ 100000 ∧ l.length ≤ 100000 by have := HSM.out; simp at this; omega)
  have HRW := Lib.hid hrw
  have HRR := Lib.hid hr
  have HR2 := Lib.hid hr2
  have HC1 := Lib.hid h1
  have HC2 := Lib.hid h2
  have HQ1 := Lib.hid hq1
  clear hrw hr hr2 h1 h2 hq1
  have q1 : (er != 0) = true := by simpa using her
  have q2 : decide (er = 0) = false := by simpa using her
  have q3 : (er == 0) = false := by simpa using her
  clear her
  have HH := Lib.hid hh
  clear hh
  have H0 := Lib.hid (Below.refl w.heap.size w)
  have H1 := Lib.hid (keep2 (al w (.cells #[.int .i64 nx, .slice xa P.length xc] 24)) H0.out)
  clear H0
  have H2 := Lib.hid (Cs.new w (w.heap.size) #[.int .i64 nx, .slice xa P.length xc] 24 (by simp))
  have H3 := Lib.hid (H2.out.step (al (w.alloc (.cells #[.int .i64 nx, .slice xa P.length xc] 24)) (.cells #[.int .i64 t, .slice sa L.length sc, .int .i64 f, .slice va l.length vc, .int .i64 dn] 30)))
  clear H2
  have H4 := Lib.hid (keep2 (al (w.alloc (.cells #[.int .i64 nx, .slice xa P.length xc] 24)) (.cells #[.int .i64 t, .slice sa L.length sc, .int .i64 f, .slice va l.length vc, .int .i64 dn] 30)) H1.out)
  clear H1
  have H5 := Lib.hid (Cs.new (w.alloc (.cells #[.int .i64 nx, .slice xa P.length xc] 24)) (w.heap.size + 1) #[.int .i64 t, .slice sa L.length sc, .int .i64 f, .slice va l.length vc, .int .i64 dn] 30 (by simp))
  have H6 := Lib.hid (H3.out.step (al ((w.alloc (.cells #[.int .i64 nx, .slice xa P.length xc] 24)).alloc (.cells #[.int .i64 t, .slice sa L.length sc, .int .i64 f, .slice va l.length vc, .int .i64 dn] 30)) (.cells #[.int .i64 a, .int .i64 b, .int .i64 c, .int .i64 d] 32)))
  clear H3
  have H7 := Lib.hid (H5.out.step (al ((w.alloc (.cells #[.int .i64 nx, .slice xa P.length xc] 24)).alloc (.cells #[.int .i64 t, .slice sa L.length sc, .int .i64 f, .slice va l.length vc, .int .i64 dn] 30)) (.cells #[.int .i64 a, .int .i64 b, .int .i64 c, .int .i64 d] 32)))
  clear H5
  have H8 := Lib.hid (keep2 (al ((w.alloc (.cells #[.int .i64 nx, .slice xa P.length xc] 24)).alloc (.cells #[.int .i64 t, .slice sa L.length sc, .int .i64 f, .slice va l.length vc, .int .i64 dn] 30)) (.cells #[.int .i64 a, .int .i64 b, .int .i64 c, .int .i64 d] 32)) H4.out)
  clear H4
  have H9 := Lib.hid (Cs.new ((w.alloc (.cells #[.int .i64 nx, .slice xa P.length xc] 24)).alloc (.cells #[.int .i64 t, .slice sa L.length sc, .int .i64 f, .slice va l.length vc, .int .i64 dn] 30)) (w.heap.size + 1 + 1) #[.int .i64 a, .int .i64 b, .int .i64 c, .int .i64 d] 32 (by simp))
  go_enter Try.func8, Try.ntmps8
  go_wp2_with fail
  refine (head_any _).mono ?_
  rintro e u1 ⟨rfl, b1⟩
  have H10 := Lib.hid (H6.out.step b1)
  clear H6
  have H11 := Lib.hid (H7.out.step b1)
  clear H7
  have H12 := Lib.hid (H9.out.step b1)
  clear H9
  have H13 := Lib.hid (keep2 b1 H8.out)
  clear H8
  clear b1
  have xS0 : u1.cell? ⟨(w.heap.size), 0, none⟩ = some (.int .i64 nx) := H10.out.c 0 rfl
  have xS1 : u1.cell? ⟨(w.heap.size), 1, none⟩ = some (.slice xa P.length xc) := H10.out.c 1 rfl
  have zS : (w.heap.size) < u1.heap.size := H10.out.2.2
  have xR0 : u1.cell? ⟨(w.heap.size + 1), 0, none⟩ = some (.int .i64 t) := H11.out.c 0 rfl
  have xR1 : u1.cell? ⟨(w.heap.size + 1), 1, none⟩ = some (.slice sa L.length sc) := H11.out.c 1 rfl
  have xR2 : u1.cell? ⟨(w.heap.size + 1), 2, none⟩ = some (.int .i64 f) := H11.out.c 2 rfl
  have xR3 : u1.cell? ⟨(w.heap.size + 1), 3, none⟩ = some (.slice va l.length vc) := H11.out.c 3 rfl
  have xR4 : u1.cell? ⟨(w.heap.size + 1), 4, none⟩ = some (.int .i64 dn) := H11.out.c 4 rfl
  have zR : (w.heap.size + 1) < u1.heap.size := H11.out.2.2
  go_wp2_with fail
  refine (small_any nx t f dn xa sa va P.length L.length l.length xc sc vc true HSM.out _).mono ?_
  rintro e u2 ⟨rfl, b2⟩
  clear xS0 xS1 zS xR0 xR1 xR2 xR3 xR4 zR
  have H14 := Lib.hid (H10.out.step b2)
  clear H10
  have H15 := Lib.hid (H11.out.step b2)
  clear H11
  have H16 := Lib.hid (H12.out.step b2)
  clear H12
  have H17 := Lib.hid (keep2 b2 H13.out)
  clear H13
  clear b2
  have xR0 : u2.cell? ⟨(w.heap.size + 1), 0, none⟩ = some (.int .i64 t) := H15.out.c 0 rfl
  have xR1 : u2.cell? ⟨(w.heap.size + 1), 1, none⟩ = some (.slice sa L.length sc) := H15.out.c 1 rfl
  have xR2 : u2.cell? ⟨(w.heap.size + 1), 2, none⟩ = some (.int .i64 f) := H15.out.c 2 rfl
  have xR3 : u2.cell? ⟨(w.heap.size + 1), 3, none⟩ = some (.slice va l.length vc) := H15.out.c 3 rfl
  have xR4 : u2.cell? ⟨(w.heap.size + 1), 4, none⟩ = some (.int .i64 dn) := H15.out.c 4 rfl
  have zR : (w.heap.size + 1) < u2.heap.size := H15.out.2.2
  have xO0 : u2.cell? ⟨(w.heap.size + 1 + 1), 0, none⟩ = some (.int .i64 a) := H16.out.c 0 rfl
  have xO1 : u2.cell? ⟨(w.heap.size + 1 + 1), 1, none⟩ = some (.int .i64 b) := H16.out.c 1 rfl
  have xO2 : u2.cell? ⟨(w.heap.size + 1 + 1), 2, none⟩ = some (.int .i64 c) := H16.out.c 2 rfl
  have xO3 : u2.cell? ⟨(w.heap.size + 1 + 1), 3, none⟩ = some (.int .i64 d) := H16.out.c 3 rfl
  have zO : (w.heap.size + 1 + 1) < u2.heap.size := H16.out.2.2
  go_wp2_with fail
  refine (receive_is HRW.out _ _ _ (HS.out.step H17.out) (HV.out.step H17.out) HLN.out.2.1 HLN.out.2.2).mono ?_
  rintro e u3 ⟨c1, d1, a1, v1, rfl, hq, hB, hI, b3, hG, hK⟩
  clear xR0 xR1 xR2 xR3 xR4 zR xO0 xO1 xO2 xO3 zO
  have H18 := Lib.hid (H14.out.step b3)
  clear H14
  have H19 := Lib.hid (H15.out.step b3)
  clear H15
  have H20 := Lib.hid (H16.out.step b3)
  clear H16
  have H21 := Lib.hid (keep2 b3 H17.out)
  clear H17
  clear b3
  clear hG hK hq
  have H22 := Lib.hid (hB)
  have H23 := Lib.hid (hI)
  clear hB hI
  have H24 := Lib.hid (H18.out.step (al u3 (.cells #[.int .i64 t, .slice a1 L.length c1, .int .i64 f, .slice v1 l.length d1, .int .i64 dn] 30)))
  clear H18
  have H25 := Lib.hid (H19.out.step (al u3 (.cells #[.int .i64 t, .slice a1 L.length c1, .int .i64 f, .slice v1 l.length d1, .int .i64 dn] 30)))
  clear H19
  have H26 := Lib.hid (H20.out.step (al u3 (.cells #[.int .i64 t, .slice a1 L.length c1, .int .i64 f, .slice v1 l.length d1, .int .i64 dn] 30)))
  clear H20
  have H27 := Lib.hid (H22.out.step (al u3 (.cells #[.int .i64 t, .slice a1 L.length c1, .int .i64 f, .slice v1 l.length d1, .int .i64 dn] 30)))
  clear H22
  have H28 := Lib.hid (H23.out.step (al u3 (.cells #[.int .i64 t, .slice a1 L.length c1, .int .i64 f, .slice v1 l.length d1, .int .i64 dn] 30)))
  clear H23
  have H29 := Lib.hid (keep2 (al u3 (.cells #[.int .i64 t, .slice a1 L.length c1, .int .i64 f, .slice v1 l.length d1, .int .i64 dn] 30)) H21.out)
  clear H21
  have H30 := Lib.hid (Cs.new u3 (u3.heap.size) #[.int .i64 t, .slice a1 L.length c1, .int .i64 f, .slice v1 l.length d1, .int .i64 dn] 30 (by simp))
  have xR10 : (u3.alloc (.cells #[.int .i64 t, .slice a1 L.length c1, .int .i64 f, .slice v1 l.length d1, .int .i64 dn] 30)).cell? ⟨(u3.heap.size), 0, none⟩ = some (.int .i64 t) := H30.out.c 0 rfl
  have xR11 : (u3.alloc (.cells #[.int .i64 t, .slice a1 L.length c1, .int .i64 f, .slice v1 l.length d1, .int .i64 dn] 30)).cell? ⟨(u3.heap.size), 1, none⟩ = some (.slice a1 L.length c1) := H30.out.c 1 rfl
  have xR12 : (u3.alloc (.cells #[.int .i64 t, .slice a1 L.length c1, .int .i64 f, .slice v1 l.length d1, .int .i64 dn] 30)).cell? ⟨(u3.heap.size), 2, none⟩ = some (.int .i64 f) := H30.out.c 2 rfl
  have xR13 : (u3.alloc (.cells #[.int .i64 t, .slice a1 L.length c1, .int .i64 f, .slice v1 l.length d1, .int .i64 dn] 30)).cell? ⟨(u3.heap.size), 3, none⟩ = some (.slice v1 l.length d1) := H30.out.c 3 rfl
  have xR14 : (u3.alloc (.cells #[.int .i64 t, .slice a1 L.length c1, .int .i64 f, .slice v1 l.length d1, .int .i64 dn] 30)).cell? ⟨(u3.heap.size), 4, none⟩ = some (.int .i64 dn) := H30.out.c 4 rfl
  have zR1 : (u3.heap.size) < (u3.alloc (.cells #[.int .i64 t, .slice a1 L.length c1, .int .i64 f, .slice v1 l.length d1, .int .i64 dn] 30)).heap.size := H30.out.2.2
  have xR0 : (u3.alloc (.cells #[.int .i64 t, .slice a1 L.length c1, .int .i64 f, .slice v1 l.length d1, .int .i64 dn] 30)).cell? ⟨(w.heap.size + 1), 0, none⟩ = some (.int .i64 t) := H25.out.c 0 rfl
  have xR1 : (u3.alloc (.cells #[.int .i64 t, .slice a1 L.length c1, .int .i64 f, .slice v1 l.length d1, .int .i64 dn] 30)).cell? ⟨(w.heap.size + 1), 1, none⟩ = some (.slice sa L.length sc) := H25.out.c 1 rfl
  have xR2 : (u3.alloc (.cells #[.int .i64 t, .slice a1 L.length c1, .int .i64 f, .slice v1 l.length d1, .int .i64 dn] 30)).cell? ⟨(w.heap.size + 1), 2, none⟩ = some (.int .i64 f) := H25.out.c 2 rfl
  have xR3 : (u3.alloc (.cells #[.int .i64 t, .slice a1 L.length c1, .int .i64 f, .slice v1 l.length d1, .int .i64 dn] 30)).cell? ⟨(w.heap.size + 1), 3, none⟩ = some (.slice va l.length vc) := H25.out.c 3 rfl
  have xR4 : (u3.alloc (.cells #[.int .i64 t, .slice a1 L.length c1, .int .i64 f, .slice v1 l.length d1, .int .i64 dn] 30)).cell? ⟨(w.heap.size + 1), 4, none⟩ = some (.int .i64 dn) := H25.out.c 4 rfl
  have zR : (w.heap.size + 1) < (u3.alloc (.cells #[.int .i64 t, .slice a1 L.length c1, .int .i64 f, .slice v1 l.length d1, .int .i64 dn] 30)).heap.size := H25.out.2.2
  go_wp2_with fail
  refine (samer_any t f dn L l l.length _ _ _ _ _ _ _ _ _ H27.out H28.out (HS.out.step H29.out) (HV.out.step H29.out)).mono ?_
  rintro e u4 ⟨rfl, b4⟩
  clear xR10 xR11 xR12 xR13 xR14 zR1 xR0 xR1 xR2 xR3 xR4 zR
  have H31 := Lib.hid (H24.out.step b4)
  clear H24
  have H32 := Lib.hid (H25.out.step b4)
  clear H25
  have H33 := Lib.hid (H26.out.step b4)
  clear H26
  have H34 := Lib.hid (H27.out.step b4)
  clear H27
  have H35 := Lib.hid (H28.out.step b4)
  clear H28
  have H36 := Lib.hid (H30.out.step b4)
  clear H30
  have H37 := Lib.hid (keep2 b4 H29.out)
  clear H29
  clear b4
  have xS0 : u4.cell? ⟨(w.heap.size), 0, none⟩ = some (.int .i64 nx) := H31.out.c 0 rfl
  have xS1 : u4.cell? ⟨(w.heap.size), 1, none⟩ = some (.slice xa P.length xc) := H31.out.c 1 rfl
  have zS : (w.heap.size) < u4.heap.size := H31.out.2.2
  go_wp2_with fail
  clear H36
  clear H34
  clear H35
  clear H32
  clear H33
  refine (confirm_to HC1.out (by have h := HRR.out; simpa using h) _ _ _ (HP.out.step H37.out) HLN.out.1).mono ?_
  rintro e u5 ⟨c2, a2, rfl, hO, b5⟩
  clear xS0 xS1 zS
  have H38 := Lib.hid (H31.out.step b5)
  clear H31
  have H39 := Lib.hid (keep2 b5 H37.out)
  clear H37
  clear b5
  have H40 := Lib.hid (hO)
  clear hO
  have H41 := Lib.hid (H38.out.step (al u5 (.cells #[.int .i64 nx, .slice a2 P.length c2] 24)))
  clear H38
  have H42 := Lib.hid (H40.out.step (al u5 (.cells #[.int .i64 nx, .slice a2 P.length c2] 24)))
  clear H40
  have H43 := Lib.hid (keep2 (al u5 (.cells #[.int .i64 nx, .slice a2 P.length c2] 24)) H39.out)
  clear H39
  have H44 := Lib.hid (Cs.new u5 (u5.heap.size) #[.int .i64 nx, .slice a2 P.length c2] 24 (by simp))
  have xS10 : (u5.alloc (.cells #[.int .i64 nx, .slice a2 P.length c2] 24)).cell? ⟨(u5.heap.size), 0, none⟩ = some (.int .i64 nx) := H44.out.c 0 rfl
  have xS11 : (u5.alloc (.cells #[.int .i64 nx, .slice a2 P.length c2] 24)).cell? ⟨(u5.heap.size), 1, none⟩ = some (.slice a2 P.length c2) := H44.out.c 1 rfl
  have zS1 : (u5.heap.size) < (u5.alloc (.cells #[.int .i64 nx, .slice a2 P.length c2] 24)).heap.size := H44.out.2.2
  go_wp2_with fail
  refine (confirm_to HC2.out HR2.out _ _ _ H42.out HQ1.out).mono ?_
  rintro e u6 ⟨c3, a3, rfl, hO, b6⟩
  clear xS10 xS11 zS1
  have H45 := Lib.hid (H41.out.step b6)
  clear H41
  have H46 := Lib.hid (H42.out.step b6)
  clear H42
  have H47 := Lib.hid (H44.out.step b6)
  clear H44
  have H48 := Lib.hid (keep2 b6 H43.out)
  clear H43
  clear b6
  have H49 := Lib.hid (hO)
  clear hO
  have H50 := Lib.hid (H45.out.step (al u6 (.cells #[.int .i64 nx, .slice a3 P.length c3] 24)))
  clear H45
  have H51 := Lib.hid (H46.out.step (al u6 (.cells #[.int .i64 nx, .slice a3 P.length c3] 24)))
  clear H46
  have H52 := Lib.hid (H47.out.step (al u6 (.cells #[.int .i64 nx, .slice a3 P.length c3] 24)))
  clear H47
  have H53 := Lib.hid (H49.out.step (al u6 (.cells #[.int .i64 nx, .slice a3 P.length c3] 24)))
  clear H49
  have H54 := Lib.hid (keep2 (al u6 (.cells #[.int .i64 nx, .slice a3 P.length c3] 24)) H48.out)
  clear H48
  have H55 := Lib.hid (Cs.new u6 (u6.heap.size) #[.int .i64 nx, .slice a3 P.length c3] 24 (by simp))
  have xS10 : (u6.alloc (.cells #[.int .i64 nx, .slice a3 P.length c3] 24)).cell? ⟨(u5.heap.size), 0, none⟩ = some (.int .i64 nx) := H52.out.c 0 rfl
  have xS11 : (u6.alloc (.cells #[.int .i64 nx, .slice a3 P.length c3] 24)).cell? ⟨(u5.heap.size), 1, none⟩ = some (.slice a2 P.length c2) := H52.out.c 1 rfl
  have zS1 : (u5.heap.size) < (u6.alloc (.cells #[.int .i64 nx, .slice a3 P.length c3] 24)).heap.size := H52.out.2.2
  have xS20 : (u6.alloc (.cells #[.int .i64 nx, .slice a3 P.length c3] 24)).cell? ⟨(u6.heap.size), 0, none⟩ = some (.int .i64 nx) := H55.out.c 0 rfl
  have xS21 : (u6.alloc (.cells #[.int .i64 nx, .slice a3 P.length c3] 24)).cell? ⟨(u6.heap.size), 1, none⟩ = some (.slice a3 P.length c3) := H55.out.c 1 rfl
  have zS2 : (u6.heap.size) < (u6.alloc (.cells #[.int .i64 nx, .slice a3 P.length c3] 24)).heap.size := H55.out.2.2
  go_wp2_with fail
  refine (sames_any nx _ _ _ _ P _ H51.out H53.out).mono ?_
  rintro e u7 ⟨rfl, b7⟩
  clear xS10 xS11 zS1 xS20 xS21 zS2
  have H56 := Lib.hid (H50.out.step b7)
  clear H50
  have H57 := Lib.hid (H51.out.step b7)
  clear H51
  have H58 := Lib.hid (H52.out.step b7)
  clear H52
  have H59 := Lib.hid (H53.out.step b7)
  clear H53
  have H60 := Lib.hid (H55.out.step b7)
  clear H55
  have H61 := Lib.hid (keep2 b7 H54.out)
  clear H54
  clear b7
  clear H60
  clear H59
  have xS0 : u7.cell? ⟨(w.heap.size), 0, none⟩ = some (.int .i64 nx) := H56.out.c 0 rfl
  have xS1 : u7.cell? ⟨(w.heap.size), 1, none⟩ = some (.slice xa P.length xc) := H56.out.c 1 rfl
  have zS : (w.heap.size) < u7.heap.size := H56.out.2.2
  have xS10 : u7.cell? ⟨(u5.heap.size), 0, none⟩ = some (.int .i64 nx) := H58.out.c 0 rfl
  have xS11 : u7.cell? ⟨(u5.heap.size), 1, none⟩ = some (.slice a2 P.length c2) := H58.out.c 1 rfl
  have zS1 : (u5.heap.size) < u7.heap.size := H58.out.2.2
  go_wp2_with fail
  refine (rsender_any nx xa xc P true (by have h := HRR.out; simpa using h) _ (HP.out.step H61.out)).mono ?_
  rintro e u8 ⟨rfl, b8⟩
  clear xS0 xS1 zS xS10 xS11 zS1
  have H62 := Lib.hid (H56.out.step b8)
  clear H56
  have H63 := Lib.hid (H57.out.step b8)
  clear H57
  have H64 := Lib.hid (H58.out.step b8)
  clear H58
  have H65 := Lib.hid (keep2 b8 H61.out)
  clear H61
  clear b8
  have xS0 : u8.cell? ⟨(w.heap.size), 0, none⟩ = some (.int .i64 nx) := H62.out.c 0 rfl
  have xS1 : u8.cell? ⟨(w.heap.size), 1, none⟩ = some (.slice xa P.length xc) := H62.out.c 1 rfl
  have zS : (w.heap.size) < u8.heap.size := H62.out.2.2
  have xS10 : u8.cell? ⟨(u5.heap.size), 0, none⟩ = some (.int .i64 nx) := H64.out.c 0 rfl
  have xS11 : u8.cell? ⟨(u5.heap.size), 1, none⟩ = some (.slice a2 P.length c2) := H64.out.c 1 rfl
  have zS1 : (u5.heap.size) < u8.heap.size := H64.out.2.2
  go_wp2_with fail
  refine (has_any _ P q _ (HP.out.step H65.out)).mono ?_
  rintro e u9 ⟨rfl, b9⟩
  clear xS0 xS1 zS xS10 xS11 zS1
  have H66 := Lib.hid (H62.out.step b9)
  clear H62
  have H67 := Lib.hid (H63.out.step b9)
  clear H63
  have H68 := Lib.hid (H64.out.step b9)
  clear H64
  have H69 := Lib.hid (keep2 b9 H65.out)
  clear H65
  clear b9
  rw [HH.out]
  have xS0 : u9.cell? ⟨(w.heap.size), 0, none⟩ = some (.int .i64 nx) := H66.out.c 0 rfl
  have xS1 : u9.cell? ⟨(w.heap.size), 1, none⟩ = some (.slice xa P.length xc) := H66.out.c 1 rfl
  have zS : (w.heap.size) < u9.heap.size := H66.out.2.2
  have xS10 : u9.cell? ⟨(u5.heap.size), 0, none⟩ = some (.int .i64 nx) := H68.out.c 0 rfl
  have xS11 : u9.cell? ⟨(u5.heap.size), 1, none⟩ = some (.slice a2 P.length c2) := H68.out.c 1 rfl
  have zS1 : (u5.heap.size) < u9.heap.size := H68.out.2.2
  go_wp2_with fail
  refine (sames_any nx _ _ _ _ P _ H67.out (HP.out.step H69.out)).mono ?_
  rintro e u10 ⟨rfl, b10⟩
  clear xS0 xS1 zS xS10 xS11 zS1
  have H70 := Lib.hid (H66.out.step b10)
  clear H66
  have H71 := Lib.hid (H67.out.step b10)
  clear H67
  have H72 := Lib.hid (H68.out.step b10)
  clear H68
  have H73 := Lib.hid (keep2 b10 H69.out)
  clear H69
  clear b10
  go_wp2
  go_ret
  exact ⟨rfl, H73.out⟩
set_option maxRecDepth 100000 in
set_option maxHeartbeats 8000000 in
theorem errors_e_in (nx t f dn a b c d q : Int) (r2 : Bool) (Q : List Od) (er : Int) (xa sa va : Option Addr) (xc sc vc : Nat) (P : List Od) (L : List Bool) (l : List Int) (w : World) (hp : OdsAt w (.slice xa P.length xc) P) (hs : BosAt w (.slice sa L.length sc) L) (hc : L.length ≤ sc) (hv : IntsAt w (.slice va l.length vc) l) (hsm : (decide (P.length ≤ 30) && (decide (l.length ≤ 30) && decide (L.length ≤ 30))) = true) (hrw : RW t L f l dn a b c d t L f l dn false er) (her : er ≠ 0) (hr : true = true ↔ SnP nx P) (hr2 : r2 = true ↔ SnP nx Q) (h1 : cfL nx q P true = Q) (h2 : cfL nx q Q r2 = Q) (hq1 : Q.length ≤ 100000) (hh : (P.any fun x => x.a == q) = true) (hh1 : (Q.any fun x => x.a == q) = false) (hl1 : Q.length + 1 = P.length) :
    Calls Try.prog 8 #[.agg #[.int .i64 nx, .slice xa P.length xc], .agg #[.int .i64 t, .slice sa L.length sc, .int .i64 f, .slice va l.length vc, .int .i64 dn], .agg #[.int .i64 a, .int .i64 b, .int .i64 c, .int .i64 d], .int .i64 q] w fun e w' => e = .returned (.bool true) ∧ Below w.heap.size w w' := by
  have HP := Lib.hid hp
  have HS := Lib.hid hs
  have HV := Lib.hid hv
  have HCP := Lib.hid hc
  have HSM := Lib.hid hsm
  clear hp hs hv hc hsm
  have HLN := Lib.hid (show P.length ≤ 100000 ∧ L.length ≤ 100000 ∧ l.length ≤ 100000 by have := HSM.out; simp at this; omega)
  have HRW := Lib.hid hrw
  have HRR := Lib.hid hr
  have HR2 := Lib.hid hr2
  have HC1 := Lib.hid h1
  have HC2 := Lib.hid h2
  have HQ1 := Lib.hid hq1
  clear hrw hr hr2 h1 h2 hq1
  have q1 : (er != 0) = true := by simpa using her
  have q2 : decide (er = 0) = false := by simpa using her
  have q3 : (er == 0) = false := by simpa using her
  clear her
  have HH := Lib.hid hh
  have HH1 := Lib.hid hh1
  have HL1 := Lib.hid hl1
  have w1 : wrap64 ((P.length : Int) - 1) = (Q.length : Int) := by rw [IntWalk.wrap64_in _ (by have := HLN.out; omega)]; have := HL1.out; omega
  clear hh hh1 hl1
  have H0 := Lib.hid (Below.refl w.heap.size w)
  have H1 := Lib.hid (keep2 (al w (.cells #[.int .i64 nx, .slice xa P.length xc] 24)) H0.out)
  clear H0
  have H2 := Lib.hid (Cs.new w (w.heap.size) #[.int .i64 nx, .slice xa P.length xc] 24 (by simp))
  have H3 := Lib.hid (H2.out.step (al (w.alloc (.cells #[.int .i64 nx, .slice xa P.length xc] 24)) (.cells #[.int .i64 t, .slice sa L.length sc, .int .i64 f, .slice va l.length vc, .int .i64 dn] 30)))
  clear H2
  have H4 := Lib.hid (keep2 (al (w.alloc (.cells #[.int .i64 nx, .slice xa P.length xc] 24)) (.cells #[.int .i64 t, .slice sa L.length sc, .int .i64 f, .slice va l.length vc, .int .i64 dn] 30)) H1.out)
  clear H1
  have H5 := Lib.hid (Cs.new (w.alloc (.cells #[.int .i64 nx, .slice xa P.length xc] 24)) (w.heap.size + 1) #[.int .i64 t, .slice sa L.length sc, .int .i64 f, .slice va l.length vc, .int .i64 dn] 30 (by simp))
  have H6 := Lib.hid (H3.out.step (al ((w.alloc (.cells #[.int .i64 nx, .slice xa P.length xc] 24)).alloc (.cells #[.int .i64 t, .slice sa L.length sc, .int .i64 f, .slice va l.length vc, .int .i64 dn] 30)) (.cells #[.int .i64 a, .int .i64 b, .int .i64 c, .int .i64 d] 32)))
  clear H3
  have H7 := Lib.hid (H5.out.step (al ((w.alloc (.cells #[.int .i64 nx, .slice xa P.length xc] 24)).alloc (.cells #[.int .i64 t, .slice sa L.length sc, .int .i64 f, .slice va l.length vc, .int .i64 dn] 30)) (.cells #[.int .i64 a, .int .i64 b, .int .i64 c, .int .i64 d] 32)))
  clear H5
  have H8 := Lib.hid (keep2 (al ((w.alloc (.cells #[.int .i64 nx, .slice xa P.length xc] 24)).alloc (.cells #[.int .i64 t, .slice sa L.length sc, .int .i64 f, .slice va l.length vc, .int .i64 dn] 30)) (.cells #[.int .i64 a, .int .i64 b, .int .i64 c, .int .i64 d] 32)) H4.out)
  clear H4
  have H9 := Lib.hid (Cs.new ((w.alloc (.cells #[.int .i64 nx, .slice xa P.length xc] 24)).alloc (.cells #[.int .i64 t, .slice sa L.length sc, .int .i64 f, .slice va l.length vc, .int .i64 dn] 30)) (w.heap.size + 1 + 1) #[.int .i64 a, .int .i64 b, .int .i64 c, .int .i64 d] 32 (by simp))
  go_enter Try.func8, Try.ntmps8
  go_wp2_with fail
  refine (head_any _).mono ?_
  rintro e u1 ⟨rfl, b1⟩
  have H10 := Lib.hid (H6.out.step b1)
  clear H6
  have H11 := Lib.hid (H7.out.step b1)
  clear H7
  have H12 := Lib.hid (H9.out.step b1)
  clear H9
  have H13 := Lib.hid (keep2 b1 H8.out)
  clear H8
  clear b1
  have xS0 : u1.cell? ⟨(w.heap.size), 0, none⟩ = some (.int .i64 nx) := H10.out.c 0 rfl
  have xS1 : u1.cell? ⟨(w.heap.size), 1, none⟩ = some (.slice xa P.length xc) := H10.out.c 1 rfl
  have zS : (w.heap.size) < u1.heap.size := H10.out.2.2
  have xR0 : u1.cell? ⟨(w.heap.size + 1), 0, none⟩ = some (.int .i64 t) := H11.out.c 0 rfl
  have xR1 : u1.cell? ⟨(w.heap.size + 1), 1, none⟩ = some (.slice sa L.length sc) := H11.out.c 1 rfl
  have xR2 : u1.cell? ⟨(w.heap.size + 1), 2, none⟩ = some (.int .i64 f) := H11.out.c 2 rfl
  have xR3 : u1.cell? ⟨(w.heap.size + 1), 3, none⟩ = some (.slice va l.length vc) := H11.out.c 3 rfl
  have xR4 : u1.cell? ⟨(w.heap.size + 1), 4, none⟩ = some (.int .i64 dn) := H11.out.c 4 rfl
  have zR : (w.heap.size + 1) < u1.heap.size := H11.out.2.2
  go_wp2_with fail
  refine (small_any nx t f dn xa sa va P.length L.length l.length xc sc vc true HSM.out _).mono ?_
  rintro e u2 ⟨rfl, b2⟩
  clear xS0 xS1 zS xR0 xR1 xR2 xR3 xR4 zR
  have H14 := Lib.hid (H10.out.step b2)
  clear H10
  have H15 := Lib.hid (H11.out.step b2)
  clear H11
  have H16 := Lib.hid (H12.out.step b2)
  clear H12
  have H17 := Lib.hid (keep2 b2 H13.out)
  clear H13
  clear b2
  have xR0 : u2.cell? ⟨(w.heap.size + 1), 0, none⟩ = some (.int .i64 t) := H15.out.c 0 rfl
  have xR1 : u2.cell? ⟨(w.heap.size + 1), 1, none⟩ = some (.slice sa L.length sc) := H15.out.c 1 rfl
  have xR2 : u2.cell? ⟨(w.heap.size + 1), 2, none⟩ = some (.int .i64 f) := H15.out.c 2 rfl
  have xR3 : u2.cell? ⟨(w.heap.size + 1), 3, none⟩ = some (.slice va l.length vc) := H15.out.c 3 rfl
  have xR4 : u2.cell? ⟨(w.heap.size + 1), 4, none⟩ = some (.int .i64 dn) := H15.out.c 4 rfl
  have zR : (w.heap.size + 1) < u2.heap.size := H15.out.2.2
  have xO0 : u2.cell? ⟨(w.heap.size + 1 + 1), 0, none⟩ = some (.int .i64 a) := H16.out.c 0 rfl
  have xO1 : u2.cell? ⟨(w.heap.size + 1 + 1), 1, none⟩ = some (.int .i64 b) := H16.out.c 1 rfl
  have xO2 : u2.cell? ⟨(w.heap.size + 1 + 1), 2, none⟩ = some (.int .i64 c) := H16.out.c 2 rfl
  have xO3 : u2.cell? ⟨(w.heap.size + 1 + 1), 3, none⟩ = some (.int .i64 d) := H16.out.c 3 rfl
  have zO : (w.heap.size + 1 + 1) < u2.heap.size := H16.out.2.2
  go_wp2_with fail
  refine (receive_is HRW.out _ _ _ (HS.out.step H17.out) (HV.out.step H17.out) HLN.out.2.1 HLN.out.2.2).mono ?_
  rintro e u3 ⟨c1, d1, a1, v1, rfl, hq, hB, hI, b3, hG, hK⟩
  clear xR0 xR1 xR2 xR3 xR4 zR xO0 xO1 xO2 xO3 zO
  have H18 := Lib.hid (H14.out.step b3)
  clear H14
  have H19 := Lib.hid (H15.out.step b3)
  clear H15
  have H20 := Lib.hid (H16.out.step b3)
  clear H16
  have H21 := Lib.hid (keep2 b3 H17.out)
  clear H17
  clear b3
  clear hG hK hq
  have H22 := Lib.hid (hB)
  have H23 := Lib.hid (hI)
  clear hB hI
  have H24 := Lib.hid (H18.out.step (al u3 (.cells #[.int .i64 t, .slice a1 L.length c1, .int .i64 f, .slice v1 l.length d1, .int .i64 dn] 30)))
  clear H18
  have H25 := Lib.hid (H19.out.step (al u3 (.cells #[.int .i64 t, .slice a1 L.length c1, .int .i64 f, .slice v1 l.length d1, .int .i64 dn] 30)))
  clear H19
  have H26 := Lib.hid (H20.out.step (al u3 (.cells #[.int .i64 t, .slice a1 L.length c1, .int .i64 f, .slice v1 l.length d1, .int .i64 dn] 30)))
  clear H20
  have H27 := Lib.hid (H22.out.step (al u3 (.cells #[.int .i64 t, .slice a1 L.length c1, .int .i64 f, .slice v1 l.length d1, .int .i64 dn] 30)))
  clear H22
  have H28 := Lib.hid (H23.out.step (al u3 (.cells #[.int .i64 t, .slice a1 L.length c1, .int .i64 f, .slice v1 l.length d1, .int .i64 dn] 30)))
  clear H23
  have H29 := Lib.hid (keep2 (al u3 (.cells #[.int .i64 t, .slice a1 L.length c1, .int .i64 f, .slice v1 l.length d1, .int .i64 dn] 30)) H21.out)
  clear H21
  have H30 := Lib.hid (Cs.new u3 (u3.heap.size) #[.int .i64 t, .slice a1 L.length c1, .int .i64 f, .slice v1 l.length d1, .int .i64 dn] 30 (by simp))
  have xR10 : (u3.alloc (.cells #[.int .i64 t, .slice a1 L.length c1, .int .i64 f, .slice v1 l.length d1, .int .i64 dn] 30)).cell? ⟨(u3.heap.size), 0, none⟩ = some (.int .i64 t) := H30.out.c 0 rfl
  have xR11 : (u3.alloc (.cells #[.int .i64 t, .slice a1 L.length c1, .int .i64 f, .slice v1 l.length d1, .int .i64 dn] 30)).cell? ⟨(u3.heap.size), 1, none⟩ = some (.slice a1 L.length c1) := H30.out.c 1 rfl
  have xR12 : (u3.alloc (.cells #[.int .i64 t, .slice a1 L.length c1, .int .i64 f, .slice v1 l.length d1, .int .i64 dn] 30)).cell? ⟨(u3.heap.size), 2, none⟩ = some (.int .i64 f) := H30.out.c 2 rfl
  have xR13 : (u3.alloc (.cells #[.int .i64 t, .slice a1 L.length c1, .int .i64 f, .slice v1 l.length d1, .int .i64 dn] 30)).cell? ⟨(u3.heap.size), 3, none⟩ = some (.slice v1 l.length d1) := H30.out.c 3 rfl
  have xR14 : (u3.alloc (.cells #[.int .i64 t, .slice a1 L.length c1, .int .i64 f, .slice v1 l.length d1, .int .i64 dn] 30)).cell? ⟨(u3.heap.size), 4, none⟩ = some (.int .i64 dn) := H30.out.c 4 rfl
  have zR1 : (u3.heap.size) < (u3.alloc (.cells #[.int .i64 t, .slice a1 L.length c1, .int .i64 f, .slice v1 l.length d1, .int .i64 dn] 30)).heap.size := H30.out.2.2
  have xR0 : (u3.alloc (.cells #[.int .i64 t, .slice a1 L.length c1, .int .i64 f, .slice v1 l.length d1, .int .i64 dn] 30)).cell? ⟨(w.heap.size + 1), 0, none⟩ = some (.int .i64 t) := H25.out.c 0 rfl
  have xR1 : (u3.alloc (.cells #[.int .i64 t, .slice a1 L.length c1, .int .i64 f, .slice v1 l.length d1, .int .i64 dn] 30)).cell? ⟨(w.heap.size + 1), 1, none⟩ = some (.slice sa L.length sc) := H25.out.c 1 rfl
  have xR2 : (u3.alloc (.cells #[.int .i64 t, .slice a1 L.length c1, .int .i64 f, .slice v1 l.length d1, .int .i64 dn] 30)).cell? ⟨(w.heap.size + 1), 2, none⟩ = some (.int .i64 f) := H25.out.c 2 rfl
  have xR3 : (u3.alloc (.cells #[.int .i64 t, .slice a1 L.length c1, .int .i64 f, .slice v1 l.length d1, .int .i64 dn] 30)).cell? ⟨(w.heap.size + 1), 3, none⟩ = some (.slice va l.length vc) := H25.out.c 3 rfl
  have xR4 : (u3.alloc (.cells #[.int .i64 t, .slice a1 L.length c1, .int .i64 f, .slice v1 l.length d1, .int .i64 dn] 30)).cell? ⟨(w.heap.size + 1), 4, none⟩ = some (.int .i64 dn) := H25.out.c 4 rfl
  have zR : (w.heap.size + 1) < (u3.alloc (.cells #[.int .i64 t, .slice a1 L.length c1, .int .i64 f, .slice v1 l.length d1, .int .i64 dn] 30)).heap.size := H25.out.2.2
  go_wp2_with fail
  refine (samer_any t f dn L l l.length _ _ _ _ _ _ _ _ _ H27.out H28.out (HS.out.step H29.out) (HV.out.step H29.out)).mono ?_
  rintro e u4 ⟨rfl, b4⟩
  clear xR10 xR11 xR12 xR13 xR14 zR1 xR0 xR1 xR2 xR3 xR4 zR
  have H31 := Lib.hid (H24.out.step b4)
  clear H24
  have H32 := Lib.hid (H25.out.step b4)
  clear H25
  have H33 := Lib.hid (H26.out.step b4)
  clear H26
  have H34 := Lib.hid (H27.out.step b4)
  clear H27
  have H35 := Lib.hid (H28.out.step b4)
  clear H28
  have H36 := Lib.hid (H30.out.step b4)
  clear H30
  have H37 := Lib.hid (keep2 b4 H29.out)
  clear H29
  clear b4
  have xS0 : u4.cell? ⟨(w.heap.size), 0, none⟩ = some (.int .i64 nx) := H31.out.c 0 rfl
  have xS1 : u4.cell? ⟨(w.heap.size), 1, none⟩ = some (.slice xa P.length xc) := H31.out.c 1 rfl
  have zS : (w.heap.size) < u4.heap.size := H31.out.2.2
  go_wp2_with fail
  clear H36
  clear H34
  clear H35
  clear H32
  clear H33
  refine (confirm_to HC1.out (by have h := HRR.out; simpa using h) _ _ _ (HP.out.step H37.out) HLN.out.1).mono ?_
  rintro e u5 ⟨c2, a2, rfl, hO, b5⟩
  clear xS0 xS1 zS
  have H38 := Lib.hid (H31.out.step b5)
  clear H31
  have H39 := Lib.hid (keep2 b5 H37.out)
  clear H37
  clear b5
  have H40 := Lib.hid (hO)
  clear hO
  have H41 := Lib.hid (H38.out.step (al u5 (.cells #[.int .i64 nx, .slice a2 Q.length c2] 24)))
  clear H38
  have H42 := Lib.hid (H40.out.step (al u5 (.cells #[.int .i64 nx, .slice a2 Q.length c2] 24)))
  clear H40
  have H43 := Lib.hid (keep2 (al u5 (.cells #[.int .i64 nx, .slice a2 Q.length c2] 24)) H39.out)
  clear H39
  have H44 := Lib.hid (Cs.new u5 (u5.heap.size) #[.int .i64 nx, .slice a2 Q.length c2] 24 (by simp))
  have xS10 : (u5.alloc (.cells #[.int .i64 nx, .slice a2 Q.length c2] 24)).cell? ⟨(u5.heap.size), 0, none⟩ = some (.int .i64 nx) := H44.out.c 0 rfl
  have xS11 : (u5.alloc (.cells #[.int .i64 nx, .slice a2 Q.length c2] 24)).cell? ⟨(u5.heap.size), 1, none⟩ = some (.slice a2 Q.length c2) := H44.out.c 1 rfl
  have zS1 : (u5.heap.size) < (u5.alloc (.cells #[.int .i64 nx, .slice a2 Q.length c2] 24)).heap.size := H44.out.2.2
  go_wp2_with fail
  refine (confirm_to HC2.out HR2.out _ _ _ H42.out HQ1.out).mono ?_
  rintro e u6 ⟨c3, a3, rfl, hO, b6⟩
  clear xS10 xS11 zS1
  have H45 := Lib.hid (H41.out.step b6)
  clear H41
  have H46 := Lib.hid (H42.out.step b6)
  clear H42
  have H47 := Lib.hid (H44.out.step b6)
  clear H44
  have H48 := Lib.hid (keep2 b6 H43.out)
  clear H43
  clear b6
  have H49 := Lib.hid (hO)
  clear hO
  have H50 := Lib.hid (H45.out.step (al u6 (.cells #[.int .i64 nx, .slice a3 Q.length c3] 24)))
  clear H45
  have H51 := Lib.hid (H46.out.step (al u6 (.cells #[.int .i64 nx, .slice a3 Q.length c3] 24)))
  clear H46
  have H52 := Lib.hid (H47.out.step (al u6 (.cells #[.int .i64 nx, .slice a3 Q.length c3] 24)))
  clear H47
  have H53 := Lib.hid (H49.out.step (al u6 (.cells #[.int .i64 nx, .slice a3 Q.length c3] 24)))
  clear H49
  have H54 := Lib.hid (keep2 (al u6 (.cells #[.int .i64 nx, .slice a3 Q.length c3] 24)) H48.out)
  clear H48
  have H55 := Lib.hid (Cs.new u6 (u6.heap.size) #[.int .i64 nx, .slice a3 Q.length c3] 24 (by simp))
  have xS10 : (u6.alloc (.cells #[.int .i64 nx, .slice a3 Q.length c3] 24)).cell? ⟨(u5.heap.size), 0, none⟩ = some (.int .i64 nx) := H52.out.c 0 rfl
  have xS11 : (u6.alloc (.cells #[.int .i64 nx, .slice a3 Q.length c3] 24)).cell? ⟨(u5.heap.size), 1, none⟩ = some (.slice a2 Q.length c2) := H52.out.c 1 rfl
  have zS1 : (u5.heap.size) < (u6.alloc (.cells #[.int .i64 nx, .slice a3 Q.length c3] 24)).heap.size := H52.out.2.2
  have xS20 : (u6.alloc (.cells #[.int .i64 nx, .slice a3 Q.length c3] 24)).cell? ⟨(u6.heap.size), 0, none⟩ = some (.int .i64 nx) := H55.out.c 0 rfl
  have xS21 : (u6.alloc (.cells #[.int .i64 nx, .slice a3 Q.length c3] 24)).cell? ⟨(u6.heap.size), 1, none⟩ = some (.slice a3 Q.length c3) := H55.out.c 1 rfl
  have zS2 : (u6.heap.size) < (u6.alloc (.cells #[.int .i64 nx, .slice a3 Q.length c3] 24)).heap.size := H55.out.2.2
  go_wp2_with fail
  refine (sames_any nx _ _ _ _ Q _ H51.out H53.out).mono ?_
  rintro e u7 ⟨rfl, b7⟩
  clear xS10 xS11 zS1 xS20 xS21 zS2
  have H56 := Lib.hid (H50.out.step b7)
  clear H50
  have H57 := Lib.hid (H51.out.step b7)
  clear H51
  have H58 := Lib.hid (H52.out.step b7)
  clear H52
  have H59 := Lib.hid (H53.out.step b7)
  clear H53
  have H60 := Lib.hid (H55.out.step b7)
  clear H55
  have H61 := Lib.hid (keep2 b7 H54.out)
  clear H54
  clear b7
  clear H60
  clear H59
  have xS0 : u7.cell? ⟨(w.heap.size), 0, none⟩ = some (.int .i64 nx) := H56.out.c 0 rfl
  have xS1 : u7.cell? ⟨(w.heap.size), 1, none⟩ = some (.slice xa P.length xc) := H56.out.c 1 rfl
  have zS : (w.heap.size) < u7.heap.size := H56.out.2.2
  have xS10 : u7.cell? ⟨(u5.heap.size), 0, none⟩ = some (.int .i64 nx) := H58.out.c 0 rfl
  have xS11 : u7.cell? ⟨(u5.heap.size), 1, none⟩ = some (.slice a2 Q.length c2) := H58.out.c 1 rfl
  have zS1 : (u5.heap.size) < u7.heap.size := H58.out.2.2
  go_wp2_with fail
  refine (rsender_any nx xa xc P true (by have h := HRR.out; simpa using h) _ (HP.out.step H61.out)).mono ?_
  rintro e u8 ⟨rfl, b8⟩
  clear xS0 xS1 zS xS10 xS11 zS1
  have H62 := Lib.hid (H56.out.step b8)
  clear H56
  have H63 := Lib.hid (H57.out.step b8)
  clear H57
  have H64 := Lib.hid (H58.out.step b8)
  clear H58
  have H65 := Lib.hid (keep2 b8 H61.out)
  clear H61
  clear b8
  have xS0 : u8.cell? ⟨(w.heap.size), 0, none⟩ = some (.int .i64 nx) := H62.out.c 0 rfl
  have xS1 : u8.cell? ⟨(w.heap.size), 1, none⟩ = some (.slice xa P.length xc) := H62.out.c 1 rfl
  have zS : (w.heap.size) < u8.heap.size := H62.out.2.2
  have xS10 : u8.cell? ⟨(u5.heap.size), 0, none⟩ = some (.int .i64 nx) := H64.out.c 0 rfl
  have xS11 : u8.cell? ⟨(u5.heap.size), 1, none⟩ = some (.slice a2 Q.length c2) := H64.out.c 1 rfl
  have zS1 : (u5.heap.size) < u8.heap.size := H64.out.2.2
  go_wp2_with fail
  refine (has_any _ P q _ (HP.out.step H65.out)).mono ?_
  rintro e u9 ⟨rfl, b9⟩
  clear xS0 xS1 zS xS10 xS11 zS1
  have H66 := Lib.hid (H62.out.step b9)
  clear H62
  have H67 := Lib.hid (H63.out.step b9)
  clear H63
  have H68 := Lib.hid (H64.out.step b9)
  clear H64
  have H69 := Lib.hid (keep2 b9 H65.out)
  clear H65
  clear b9
  rw [HH.out]
  have xS0 : u9.cell? ⟨(w.heap.size), 0, none⟩ = some (.int .i64 nx) := H66.out.c 0 rfl
  have xS1 : u9.cell? ⟨(w.heap.size), 1, none⟩ = some (.slice xa P.length xc) := H66.out.c 1 rfl
  have zS : (w.heap.size) < u9.heap.size := H66.out.2.2
  have xS10 : u9.cell? ⟨(u5.heap.size), 0, none⟩ = some (.int .i64 nx) := H68.out.c 0 rfl
  have xS11 : u9.cell? ⟨(u5.heap.size), 1, none⟩ = some (.slice a2 Q.length c2) := H68.out.c 1 rfl
  have zS1 : (u5.heap.size) < u9.heap.size := H68.out.2.2
  go_wp2_with fail
  refine (has_any _ Q q _ H67.out).mono ?_
  rintro e u10 ⟨rfl, b10⟩
  clear xS0 xS1 zS xS10 xS11 zS1
  have H70 := Lib.hid (H66.out.step b10)
  clear H66
  have H71 := Lib.hid (H67.out.step b10)
  clear H67
  have H72 := Lib.hid (H68.out.step b10)
  clear H68
  have H73 := Lib.hid (keep2 b10 H69.out)
  clear H69
  clear b10
  rw [HH1.out]
  go_wp2
  go_ret
  exact ⟨rfl, H73.out⟩
set_option maxRecDepth 100000 in
set_option maxHeartbeats 8000000 in
theorem errors_o_no (nx t f dn a b c d q : Int) (r2 : Bool) (T F D : Int) (A : List Bool) (V : List Int) (xa sa va : Option Addr) (xc sc vc : Nat) (P : List Od) (L : List Bool) (l : List Int) (w : World) (hp : OdsAt w (.slice xa P.length xc) P) (hs : BosAt w (.slice sa L.length sc) L) (hc : L.length ≤ sc) (hv : IntsAt w (.slice va l.length vc) l) (hsm : (decide (P.length ≤ 30) && (decide (l.length ≤ 30) && decide (L.length ≤ 30))) = true) (hrw : RW t L f l dn a b c d T A F V D true 0) (hr : false = true ↔ SnP nx P) (hr2 : r2 = true ↔ SnP nx P) (h1 : cfL nx q P false = P) (h2 : cfL nx q P r2 = P) (hq1 : P.length ≤ 100000) :
    Calls Try.prog 8 #[.agg #[.int .i64 nx, .slice xa P.length xc], .agg #[.int .i64 t, .slice sa L.length sc, .int .i64 f, .slice va l.length vc, .int .i64 dn], .agg #[.int .i64 a, .int .i64 b, .int .i64 c, .int .i64 d], .int .i64 q] w fun e w' => e = .returned (.bool true) ∧ Below w.heap.size w w' := by
  have HP := Lib.hid hp
  have HS := Lib.hid hs
  have HV := Lib.hid hv
  have HCP := Lib.hid hc
  have HSM := Lib.hid hsm
  clear hp hs hv hc hsm
  have HLN := Lib.hid (show P.length ≤ 100000 ∧ L.length ≤ 100000 ∧ l.length ≤ 100000 by have := HSM.out; simp at this; omega)
  have HRW := Lib.hid hrw
  have HRR := Lib.hid hr
  have HR2 := Lib.hid hr2
  have HC1 := Lib.hid h1
  have HC2 := Lib.hid h2
  have HQ1 := Lib.hid hq1
  clear hrw hr hr2 h1 h2 hq1
  have H0 := Lib.hid (Below.refl w.heap.size w)
  have H1 := Lib.hid (keep2 (al w (.cells #[.int .i64 nx, .slice xa P.length xc] 24)) H0.out)
  clear H0
  have H2 := Lib.hid (Cs.new w (w.heap.size) #[.int .i64 nx, .slice xa P.length xc] 24 (by simp))
  have H3 := Lib.hid (H2.out.step (al (w.alloc (.cells #[.int .i64 nx, .slice xa P.length xc] 24)) (.cells #[.int .i64 t, .slice sa L.length sc, .int .i64 f, .slice va l.length vc, .int .i64 dn] 30)))
  clear H2
  have H4 := Lib.hid (keep2 (al (w.alloc (.cells #[.int .i64 nx, .slice xa P.length xc] 24)) (.cells #[.int .i64 t, .slice sa L.length sc, .int .i64 f, .slice va l.length vc, .int .i64 dn] 30)) H1.out)
  clear H1
  have H5 := Lib.hid (Cs.new (w.alloc (.cells #[.int .i64 nx, .slice xa P.length xc] 24)) (w.heap.size + 1) #[.int .i64 t, .slice sa L.length sc, .int .i64 f, .slice va l.length vc, .int .i64 dn] 30 (by simp))
  have H6 := Lib.hid (H3.out.step (al ((w.alloc (.cells #[.int .i64 nx, .slice xa P.length xc] 24)).alloc (.cells #[.int .i64 t, .slice sa L.length sc, .int .i64 f, .slice va l.length vc, .int .i64 dn] 30)) (.cells #[.int .i64 a, .int .i64 b, .int .i64 c, .int .i64 d] 32)))
  clear H3
  have H7 := Lib.hid (H5.out.step (al ((w.alloc (.cells #[.int .i64 nx, .slice xa P.length xc] 24)).alloc (.cells #[.int .i64 t, .slice sa L.length sc, .int .i64 f, .slice va l.length vc, .int .i64 dn] 30)) (.cells #[.int .i64 a, .int .i64 b, .int .i64 c, .int .i64 d] 32)))
  clear H5
  have H8 := Lib.hid (keep2 (al ((w.alloc (.cells #[.int .i64 nx, .slice xa P.length xc] 24)).alloc (.cells #[.int .i64 t, .slice sa L.length sc, .int .i64 f, .slice va l.length vc, .int .i64 dn] 30)) (.cells #[.int .i64 a, .int .i64 b, .int .i64 c, .int .i64 d] 32)) H4.out)
  clear H4
  have H9 := Lib.hid (Cs.new ((w.alloc (.cells #[.int .i64 nx, .slice xa P.length xc] 24)).alloc (.cells #[.int .i64 t, .slice sa L.length sc, .int .i64 f, .slice va l.length vc, .int .i64 dn] 30)) (w.heap.size + 1 + 1) #[.int .i64 a, .int .i64 b, .int .i64 c, .int .i64 d] 32 (by simp))
  go_enter Try.func8, Try.ntmps8
  go_wp2_with fail
  refine (head_any _).mono ?_
  rintro e u1 ⟨rfl, b1⟩
  have H10 := Lib.hid (H6.out.step b1)
  clear H6
  have H11 := Lib.hid (H7.out.step b1)
  clear H7
  have H12 := Lib.hid (H9.out.step b1)
  clear H9
  have H13 := Lib.hid (keep2 b1 H8.out)
  clear H8
  clear b1
  have xS0 : u1.cell? ⟨(w.heap.size), 0, none⟩ = some (.int .i64 nx) := H10.out.c 0 rfl
  have xS1 : u1.cell? ⟨(w.heap.size), 1, none⟩ = some (.slice xa P.length xc) := H10.out.c 1 rfl
  have zS : (w.heap.size) < u1.heap.size := H10.out.2.2
  have xR0 : u1.cell? ⟨(w.heap.size + 1), 0, none⟩ = some (.int .i64 t) := H11.out.c 0 rfl
  have xR1 : u1.cell? ⟨(w.heap.size + 1), 1, none⟩ = some (.slice sa L.length sc) := H11.out.c 1 rfl
  have xR2 : u1.cell? ⟨(w.heap.size + 1), 2, none⟩ = some (.int .i64 f) := H11.out.c 2 rfl
  have xR3 : u1.cell? ⟨(w.heap.size + 1), 3, none⟩ = some (.slice va l.length vc) := H11.out.c 3 rfl
  have xR4 : u1.cell? ⟨(w.heap.size + 1), 4, none⟩ = some (.int .i64 dn) := H11.out.c 4 rfl
  have zR : (w.heap.size + 1) < u1.heap.size := H11.out.2.2
  go_wp2_with fail
  refine (small_any nx t f dn xa sa va P.length L.length l.length xc sc vc true HSM.out _).mono ?_
  rintro e u2 ⟨rfl, b2⟩
  clear xS0 xS1 zS xR0 xR1 xR2 xR3 xR4 zR
  have H14 := Lib.hid (H10.out.step b2)
  clear H10
  have H15 := Lib.hid (H11.out.step b2)
  clear H11
  have H16 := Lib.hid (H12.out.step b2)
  clear H12
  have H17 := Lib.hid (keep2 b2 H13.out)
  clear H13
  clear b2
  have xR0 : u2.cell? ⟨(w.heap.size + 1), 0, none⟩ = some (.int .i64 t) := H15.out.c 0 rfl
  have xR1 : u2.cell? ⟨(w.heap.size + 1), 1, none⟩ = some (.slice sa L.length sc) := H15.out.c 1 rfl
  have xR2 : u2.cell? ⟨(w.heap.size + 1), 2, none⟩ = some (.int .i64 f) := H15.out.c 2 rfl
  have xR3 : u2.cell? ⟨(w.heap.size + 1), 3, none⟩ = some (.slice va l.length vc) := H15.out.c 3 rfl
  have xR4 : u2.cell? ⟨(w.heap.size + 1), 4, none⟩ = some (.int .i64 dn) := H15.out.c 4 rfl
  have zR : (w.heap.size + 1) < u2.heap.size := H15.out.2.2
  have xO0 : u2.cell? ⟨(w.heap.size + 1 + 1), 0, none⟩ = some (.int .i64 a) := H16.out.c 0 rfl
  have xO1 : u2.cell? ⟨(w.heap.size + 1 + 1), 1, none⟩ = some (.int .i64 b) := H16.out.c 1 rfl
  have xO2 : u2.cell? ⟨(w.heap.size + 1 + 1), 2, none⟩ = some (.int .i64 c) := H16.out.c 2 rfl
  have xO3 : u2.cell? ⟨(w.heap.size + 1 + 1), 3, none⟩ = some (.int .i64 d) := H16.out.c 3 rfl
  have zO : (w.heap.size + 1 + 1) < u2.heap.size := H16.out.2.2
  go_wp2_with fail
  refine (receive_is HRW.out _ _ _ (HS.out.step H17.out) (HV.out.step H17.out) HLN.out.2.1 HLN.out.2.2).mono ?_
  rintro e u3 ⟨c1, d1, a1, v1, rfl, hq, hB, hI, b3, hG, hK⟩
  clear xR0 xR1 xR2 xR3 xR4 zR xO0 xO1 xO2 xO3 zO
  have H18 := Lib.hid (H14.out.step b3)
  clear H14
  have H19 := Lib.hid (H15.out.step b3)
  clear H15
  have H20 := Lib.hid (H16.out.step b3)
  clear H16
  have H21 := Lib.hid (keep2 b3 H17.out)
  clear H17
  clear b3
  clear hG hK hq
  have H22 := Lib.hid (hB)
  have H23 := Lib.hid (hI)
  clear hB hI
  have H24 := Lib.hid (H18.out.step (al u3 (.cells #[.int .i64 T, .slice a1 A.length c1, .int .i64 F, .slice v1 l.length d1, .int .i64 D] 30)))
  clear H18
  have H25 := Lib.hid (H19.out.step (al u3 (.cells #[.int .i64 T, .slice a1 A.length c1, .int .i64 F, .slice v1 l.length d1, .int .i64 D] 30)))
  clear H19
  have H26 := Lib.hid (H20.out.step (al u3 (.cells #[.int .i64 T, .slice a1 A.length c1, .int .i64 F, .slice v1 l.length d1, .int .i64 D] 30)))
  clear H20
  have H27 := Lib.hid (H22.out.step (al u3 (.cells #[.int .i64 T, .slice a1 A.length c1, .int .i64 F, .slice v1 l.length d1, .int .i64 D] 30)))
  clear H22
  have H28 := Lib.hid (H23.out.step (al u3 (.cells #[.int .i64 T, .slice a1 A.length c1, .int .i64 F, .slice v1 l.length d1, .int .i64 D] 30)))
  clear H23
  have H29 := Lib.hid (keep2 (al u3 (.cells #[.int .i64 T, .slice a1 A.length c1, .int .i64 F, .slice v1 l.length d1, .int .i64 D] 30)) H21.out)
  clear H21
  have H30 := Lib.hid (Cs.new u3 (u3.heap.size) #[.int .i64 T, .slice a1 A.length c1, .int .i64 F, .slice v1 l.length d1, .int .i64 D] 30 (by simp))
  have xS0 : (u3.alloc (.cells #[.int .i64 T, .slice a1 A.length c1, .int .i64 F, .slice v1 l.length d1, .int .i64 D] 30)).cell? ⟨(w.heap.size), 0, none⟩ = some (.int .i64 nx) := H24.out.c 0 rfl
  have xS1 : (u3.alloc (.cells #[.int .i64 T, .slice a1 A.length c1, .int .i64 F, .slice v1 l.length d1, .int .i64 D] 30)).cell? ⟨(w.heap.size), 1, none⟩ = some (.slice xa P.length xc) := H24.out.c 1 rfl
  have zS : (w.heap.size) < (u3.alloc (.cells #[.int .i64 T, .slice a1 A.length c1, .int .i64 F, .slice v1 l.length d1, .int .i64 D] 30)).heap.size := H24.out.2.2
  go_wp2_with fail
  clear H30
  clear H27
  clear H28
  clear H25
  clear H26
  refine (confirm_to HC1.out (by have h := HRR.out; simpa using h) _ _ _ (HP.out.step H29.out) HLN.out.1).mono ?_
  rintro e u4 ⟨c2, a2, rfl, hO, b4⟩
  clear xS0 xS1 zS
  have H31 := Lib.hid (H24.out.step b4)
  clear H24
  have H32 := Lib.hid (keep2 b4 H29.out)
  clear H29
  clear b4
  have H33 := Lib.hid (hO)
  clear hO
  have H34 := Lib.hid (H31.out.step (al u4 (.cells #[.int .i64 nx, .slice a2 P.length c2] 24)))
  clear H31
  have H35 := Lib.hid (H33.out.step (al u4 (.cells #[.int .i64 nx, .slice a2 P.length c2] 24)))
  clear H33
  have H36 := Lib.hid (keep2 (al u4 (.cells #[.int .i64 nx, .slice a2 P.length c2] 24)) H32.out)
  clear H32
  have H37 := Lib.hid (Cs.new u4 (u4.heap.size) #[.int .i64 nx, .slice a2 P.length c2] 24 (by simp))
  have xS10 : (u4.alloc (.cells #[.int .i64 nx, .slice a2 P.length c2] 24)).cell? ⟨(u4.heap.size), 0, none⟩ = some (.int .i64 nx) := H37.out.c 0 rfl
  have xS11 : (u4.alloc (.cells #[.int .i64 nx, .slice a2 P.length c2] 24)).cell? ⟨(u4.heap.size), 1, none⟩ = some (.slice a2 P.length c2) := H37.out.c 1 rfl
  have zS1 : (u4.heap.size) < (u4.alloc (.cells #[.int .i64 nx, .slice a2 P.length c2] 24)).heap.size := H37.out.2.2
  go_wp2_with fail
  refine (confirm_to HC2.out HR2.out _ _ _ H35.out HQ1.out).mono ?_
  rintro e u5 ⟨c3, a3, rfl, hO, b5⟩
  clear xS10 xS11 zS1
  have H38 := Lib.hid (H34.out.step b5)
  clear H34
  have H39 := Lib.hid (H35.out.step b5)
  clear H35
  have H40 := Lib.hid (H37.out.step b5)
  clear H37
  have H41 := Lib.hid (keep2 b5 H36.out)
  clear H36
  clear b5
  have H42 := Lib.hid (hO)
  clear hO
  have H43 := Lib.hid (H38.out.step (al u5 (.cells #[.int .i64 nx, .slice a3 P.length c3] 24)))
  clear H38
  have H44 := Lib.hid (H39.out.step (al u5 (.cells #[.int .i64 nx, .slice a3 P.length c3] 24)))
  clear H39
  have H45 := Lib.hid (H40.out.step (al u5 (.cells #[.int .i64 nx, .slice a3 P.length c3] 24)))
  clear H40
  have H46 := Lib.hid (H42.out.step (al u5 (.cells #[.int .i64 nx, .slice a3 P.length c3] 24)))
  clear H42
  have H47 := Lib.hid (keep2 (al u5 (.cells #[.int .i64 nx, .slice a3 P.length c3] 24)) H41.out)
  clear H41
  have H48 := Lib.hid (Cs.new u5 (u5.heap.size) #[.int .i64 nx, .slice a3 P.length c3] 24 (by simp))
  have xS10 : (u5.alloc (.cells #[.int .i64 nx, .slice a3 P.length c3] 24)).cell? ⟨(u4.heap.size), 0, none⟩ = some (.int .i64 nx) := H45.out.c 0 rfl
  have xS11 : (u5.alloc (.cells #[.int .i64 nx, .slice a3 P.length c3] 24)).cell? ⟨(u4.heap.size), 1, none⟩ = some (.slice a2 P.length c2) := H45.out.c 1 rfl
  have zS1 : (u4.heap.size) < (u5.alloc (.cells #[.int .i64 nx, .slice a3 P.length c3] 24)).heap.size := H45.out.2.2
  have xS20 : (u5.alloc (.cells #[.int .i64 nx, .slice a3 P.length c3] 24)).cell? ⟨(u5.heap.size), 0, none⟩ = some (.int .i64 nx) := H48.out.c 0 rfl
  have xS21 : (u5.alloc (.cells #[.int .i64 nx, .slice a3 P.length c3] 24)).cell? ⟨(u5.heap.size), 1, none⟩ = some (.slice a3 P.length c3) := H48.out.c 1 rfl
  have zS2 : (u5.heap.size) < (u5.alloc (.cells #[.int .i64 nx, .slice a3 P.length c3] 24)).heap.size := H48.out.2.2
  go_wp2_with fail
  refine (sames_any nx _ _ _ _ P _ H44.out H46.out).mono ?_
  rintro e u6 ⟨rfl, b6⟩
  clear xS10 xS11 zS1 xS20 xS21 zS2
  have H49 := Lib.hid (H43.out.step b6)
  clear H43
  have H50 := Lib.hid (H44.out.step b6)
  clear H44
  have H51 := Lib.hid (H45.out.step b6)
  clear H45
  have H52 := Lib.hid (H46.out.step b6)
  clear H46
  have H53 := Lib.hid (H48.out.step b6)
  clear H48
  have H54 := Lib.hid (keep2 b6 H47.out)
  clear H47
  clear b6
  clear H53
  clear H52
  have xS0 : u6.cell? ⟨(w.heap.size), 0, none⟩ = some (.int .i64 nx) := H49.out.c 0 rfl
  have xS1 : u6.cell? ⟨(w.heap.size), 1, none⟩ = some (.slice xa P.length xc) := H49.out.c 1 rfl
  have zS : (w.heap.size) < u6.heap.size := H49.out.2.2
  have xS10 : u6.cell? ⟨(u4.heap.size), 0, none⟩ = some (.int .i64 nx) := H51.out.c 0 rfl
  have xS11 : u6.cell? ⟨(u4.heap.size), 1, none⟩ = some (.slice a2 P.length c2) := H51.out.c 1 rfl
  have zS1 : (u4.heap.size) < u6.heap.size := H51.out.2.2
  go_wp2_with fail
  refine (rsender_any nx xa xc P false (by have h := HRR.out; simpa using h) _ (HP.out.step H54.out)).mono ?_
  rintro e u7 ⟨rfl, b7⟩
  clear xS0 xS1 zS xS10 xS11 zS1
  have H55 := Lib.hid (H49.out.step b7)
  clear H49
  have H56 := Lib.hid (H50.out.step b7)
  clear H50
  have H57 := Lib.hid (H51.out.step b7)
  clear H51
  have H58 := Lib.hid (keep2 b7 H54.out)
  clear H54
  clear b7
  have xS0 : u7.cell? ⟨(w.heap.size), 0, none⟩ = some (.int .i64 nx) := H55.out.c 0 rfl
  have xS1 : u7.cell? ⟨(w.heap.size), 1, none⟩ = some (.slice xa P.length xc) := H55.out.c 1 rfl
  have zS : (w.heap.size) < u7.heap.size := H55.out.2.2
  have xS10 : u7.cell? ⟨(u4.heap.size), 0, none⟩ = some (.int .i64 nx) := H57.out.c 0 rfl
  have xS11 : u7.cell? ⟨(u4.heap.size), 1, none⟩ = some (.slice a2 P.length c2) := H57.out.c 1 rfl
  have zS1 : (u4.heap.size) < u7.heap.size := H57.out.2.2
  go_wp2_with fail
  refine (sames_any nx _ _ _ _ P _ H56.out (HP.out.step H58.out)).mono ?_
  rintro e u8 ⟨rfl, b8⟩
  clear xS0 xS1 zS xS10 xS11 zS1
  have H59 := Lib.hid (H55.out.step b8)
  clear H55
  have H60 := Lib.hid (H56.out.step b8)
  clear H56
  have H61 := Lib.hid (H57.out.step b8)
  clear H57
  have H62 := Lib.hid (keep2 b8 H58.out)
  clear H58
  clear b8
  go_wp2
  go_ret
  exact ⟨rfl, H62.out⟩
set_option maxRecDepth 100000 in
set_option maxHeartbeats 8000000 in
theorem errors_o_out (nx t f dn a b c d q : Int) (r2 : Bool) (T F D : Int) (A : List Bool) (V : List Int) (xa sa va : Option Addr) (xc sc vc : Nat) (P : List Od) (L : List Bool) (l : List Int) (w : World) (hp : OdsAt w (.slice xa P.length xc) P) (hs : BosAt w (.slice sa L.length sc) L) (hc : L.length ≤ sc) (hv : IntsAt w (.slice va l.length vc) l) (hsm : (decide (P.length ≤ 30) && (decide (l.length ≤ 30) && decide (L.length ≤ 30))) = true) (hrw : RW t L f l dn a b c d T A F V D true 0) (hr : true = true ↔ SnP nx P) (hr2 : r2 = true ↔ SnP nx P) (h1 : cfL nx q P true = P) (h2 : cfL nx q P r2 = P) (hq1 : P.length ≤ 100000) (hh : (P.any fun x => x.a == q) = false) :
    Calls Try.prog 8 #[.agg #[.int .i64 nx, .slice xa P.length xc], .agg #[.int .i64 t, .slice sa L.length sc, .int .i64 f, .slice va l.length vc, .int .i64 dn], .agg #[.int .i64 a, .int .i64 b, .int .i64 c, .int .i64 d], .int .i64 q] w fun e w' => e = .returned (.bool true) ∧ Below w.heap.size w w' := by
  have HP := Lib.hid hp
  have HS := Lib.hid hs
  have HV := Lib.hid hv
  have HCP := Lib.hid hc
  have HSM := Lib.hid hsm
  clear hp hs hv hc hsm
  have HLN := Lib.hid (show P.length ≤ 100000 ∧ L.length ≤ 100000 ∧ l.length ≤ 100000 by have := HSM.out; simp at this; omega)
  have HRW := Lib.hid hrw
  have HRR := Lib.hid hr
  have HR2 := Lib.hid hr2
  have HC1 := Lib.hid h1
  have HC2 := Lib.hid h2
  have HQ1 := Lib.hid hq1
  clear hrw hr hr2 h1 h2 hq1
  have HH := Lib.hid hh
  clear hh
  have H0 := Lib.hid (Below.refl w.heap.size w)
  have H1 := Lib.hid (keep2 (al w (.cells #[.int .i64 nx, .slice xa P.length xc] 24)) H0.out)
  clear H0
  have H2 := Lib.hid (Cs.new w (w.heap.size) #[.int .i64 nx, .slice xa P.length xc] 24 (by simp))
  have H3 := Lib.hid (H2.out.step (al (w.alloc (.cells #[.int .i64 nx, .slice xa P.length xc] 24)) (.cells #[.int .i64 t, .slice sa L.length sc, .int .i64 f, .slice va l.length vc, .int .i64 dn] 30)))
  clear H2
  have H4 := Lib.hid (keep2 (al (w.alloc (.cells #[.int .i64 nx, .slice xa P.length xc] 24)) (.cells #[.int .i64 t, .slice sa L.length sc, .int .i64 f, .slice va l.length vc, .int .i64 dn] 30)) H1.out)
  clear H1
  have H5 := Lib.hid (Cs.new (w.alloc (.cells #[.int .i64 nx, .slice xa P.length xc] 24)) (w.heap.size + 1) #[.int .i64 t, .slice sa L.length sc, .int .i64 f, .slice va l.length vc, .int .i64 dn] 30 (by simp))
  have H6 := Lib.hid (H3.out.step (al ((w.alloc (.cells #[.int .i64 nx, .slice xa P.length xc] 24)).alloc (.cells #[.int .i64 t, .slice sa L.length sc, .int .i64 f, .slice va l.length vc, .int .i64 dn] 30)) (.cells #[.int .i64 a, .int .i64 b, .int .i64 c, .int .i64 d] 32)))
  clear H3
  have H7 := Lib.hid (H5.out.step (al ((w.alloc (.cells #[.int .i64 nx, .slice xa P.length xc] 24)).alloc (.cells #[.int .i64 t, .slice sa L.length sc, .int .i64 f, .slice va l.length vc, .int .i64 dn] 30)) (.cells #[.int .i64 a, .int .i64 b, .int .i64 c, .int .i64 d] 32)))
  clear H5
  have H8 := Lib.hid (keep2 (al ((w.alloc (.cells #[.int .i64 nx, .slice xa P.length xc] 24)).alloc (.cells #[.int .i64 t, .slice sa L.length sc, .int .i64 f, .slice va l.length vc, .int .i64 dn] 30)) (.cells #[.int .i64 a, .int .i64 b, .int .i64 c, .int .i64 d] 32)) H4.out)
  clear H4
  have H9 := Lib.hid (Cs.new ((w.alloc (.cells #[.int .i64 nx, .slice xa P.length xc] 24)).alloc (.cells #[.int .i64 t, .slice sa L.length sc, .int .i64 f, .slice va l.length vc, .int .i64 dn] 30)) (w.heap.size + 1 + 1) #[.int .i64 a, .int .i64 b, .int .i64 c, .int .i64 d] 32 (by simp))
  go_enter Try.func8, Try.ntmps8
  go_wp2_with fail
  refine (head_any _).mono ?_
  rintro e u1 ⟨rfl, b1⟩
  have H10 := Lib.hid (H6.out.step b1)
  clear H6
  have H11 := Lib.hid (H7.out.step b1)
  clear H7
  have H12 := Lib.hid (H9.out.step b1)
  clear H9
  have H13 := Lib.hid (keep2 b1 H8.out)
  clear H8
  clear b1
  have xS0 : u1.cell? ⟨(w.heap.size), 0, none⟩ = some (.int .i64 nx) := H10.out.c 0 rfl
  have xS1 : u1.cell? ⟨(w.heap.size), 1, none⟩ = some (.slice xa P.length xc) := H10.out.c 1 rfl
  have zS : (w.heap.size) < u1.heap.size := H10.out.2.2
  have xR0 : u1.cell? ⟨(w.heap.size + 1), 0, none⟩ = some (.int .i64 t) := H11.out.c 0 rfl
  have xR1 : u1.cell? ⟨(w.heap.size + 1), 1, none⟩ = some (.slice sa L.length sc) := H11.out.c 1 rfl
  have xR2 : u1.cell? ⟨(w.heap.size + 1), 2, none⟩ = some (.int .i64 f) := H11.out.c 2 rfl
  have xR3 : u1.cell? ⟨(w.heap.size + 1), 3, none⟩ = some (.slice va l.length vc) := H11.out.c 3 rfl
  have xR4 : u1.cell? ⟨(w.heap.size + 1), 4, none⟩ = some (.int .i64 dn) := H11.out.c 4 rfl
  have zR : (w.heap.size + 1) < u1.heap.size := H11.out.2.2
  go_wp2_with fail
  refine (small_any nx t f dn xa sa va P.length L.length l.length xc sc vc true HSM.out _).mono ?_
  rintro e u2 ⟨rfl, b2⟩
  clear xS0 xS1 zS xR0 xR1 xR2 xR3 xR4 zR
  have H14 := Lib.hid (H10.out.step b2)
  clear H10
  have H15 := Lib.hid (H11.out.step b2)
  clear H11
  have H16 := Lib.hid (H12.out.step b2)
  clear H12
  have H17 := Lib.hid (keep2 b2 H13.out)
  clear H13
  clear b2
  have xR0 : u2.cell? ⟨(w.heap.size + 1), 0, none⟩ = some (.int .i64 t) := H15.out.c 0 rfl
  have xR1 : u2.cell? ⟨(w.heap.size + 1), 1, none⟩ = some (.slice sa L.length sc) := H15.out.c 1 rfl
  have xR2 : u2.cell? ⟨(w.heap.size + 1), 2, none⟩ = some (.int .i64 f) := H15.out.c 2 rfl
  have xR3 : u2.cell? ⟨(w.heap.size + 1), 3, none⟩ = some (.slice va l.length vc) := H15.out.c 3 rfl
  have xR4 : u2.cell? ⟨(w.heap.size + 1), 4, none⟩ = some (.int .i64 dn) := H15.out.c 4 rfl
  have zR : (w.heap.size + 1) < u2.heap.size := H15.out.2.2
  have xO0 : u2.cell? ⟨(w.heap.size + 1 + 1), 0, none⟩ = some (.int .i64 a) := H16.out.c 0 rfl
  have xO1 : u2.cell? ⟨(w.heap.size + 1 + 1), 1, none⟩ = some (.int .i64 b) := H16.out.c 1 rfl
  have xO2 : u2.cell? ⟨(w.heap.size + 1 + 1), 2, none⟩ = some (.int .i64 c) := H16.out.c 2 rfl
  have xO3 : u2.cell? ⟨(w.heap.size + 1 + 1), 3, none⟩ = some (.int .i64 d) := H16.out.c 3 rfl
  have zO : (w.heap.size + 1 + 1) < u2.heap.size := H16.out.2.2
  go_wp2_with fail
  refine (receive_is HRW.out _ _ _ (HS.out.step H17.out) (HV.out.step H17.out) HLN.out.2.1 HLN.out.2.2).mono ?_
  rintro e u3 ⟨c1, d1, a1, v1, rfl, hq, hB, hI, b3, hG, hK⟩
  clear xR0 xR1 xR2 xR3 xR4 zR xO0 xO1 xO2 xO3 zO
  have H18 := Lib.hid (H14.out.step b3)
  clear H14
  have H19 := Lib.hid (H15.out.step b3)
  clear H15
  have H20 := Lib.hid (H16.out.step b3)
  clear H16
  have H21 := Lib.hid (keep2 b3 H17.out)
  clear H17
  clear b3
  clear hG hK hq
  have H22 := Lib.hid (hB)
  have H23 := Lib.hid (hI)
  clear hB hI
  have H24 := Lib.hid (H18.out.step (al u3 (.cells #[.int .i64 T, .slice a1 A.length c1, .int .i64 F, .slice v1 l.length d1, .int .i64 D] 30)))
  clear H18
  have H25 := Lib.hid (H19.out.step (al u3 (.cells #[.int .i64 T, .slice a1 A.length c1, .int .i64 F, .slice v1 l.length d1, .int .i64 D] 30)))
  clear H19
  have H26 := Lib.hid (H20.out.step (al u3 (.cells #[.int .i64 T, .slice a1 A.length c1, .int .i64 F, .slice v1 l.length d1, .int .i64 D] 30)))
  clear H20
  have H27 := Lib.hid (H22.out.step (al u3 (.cells #[.int .i64 T, .slice a1 A.length c1, .int .i64 F, .slice v1 l.length d1, .int .i64 D] 30)))
  clear H22
  have H28 := Lib.hid (H23.out.step (al u3 (.cells #[.int .i64 T, .slice a1 A.length c1, .int .i64 F, .slice v1 l.length d1, .int .i64 D] 30)))
  clear H23
  have H29 := Lib.hid (keep2 (al u3 (.cells #[.int .i64 T, .slice a1 A.length c1, .int .i64 F, .slice v1 l.length d1, .int .i64 D] 30)) H21.out)
  clear H21
  have H30 := Lib.hid (Cs.new u3 (u3.heap.size) #[.int .i64 T, .slice a1 A.length c1, .int .i64 F, .slice v1 l.length d1, .int .i64 D] 30 (by simp))
  have xS0 : (u3.alloc (.cells #[.int .i64 T, .slice a1 A.length c1, .int .i64 F, .slice v1 l.length d1, .int .i64 D] 30)).cell? ⟨(w.heap.size), 0, none⟩ = some (.int .i64 nx) := H24.out.c 0 rfl
  have xS1 : (u3.alloc (.cells #[.int .i64 T, .slice a1 A.length c1, .int .i64 F, .slice v1 l.length d1, .int .i64 D] 30)).cell? ⟨(w.heap.size), 1, none⟩ = some (.slice xa P.length xc) := H24.out.c 1 rfl
  have zS : (w.heap.size) < (u3.alloc (.cells #[.int .i64 T, .slice a1 A.length c1, .int .i64 F, .slice v1 l.length d1, .int .i64 D] 30)).heap.size := H24.out.2.2
  go_wp2_with fail
  clear H30
  clear H27
  clear H28
  clear H25
  clear H26
  refine (confirm_to HC1.out (by have h := HRR.out; simpa using h) _ _ _ (HP.out.step H29.out) HLN.out.1).mono ?_
  rintro e u4 ⟨c2, a2, rfl, hO, b4⟩
  clear xS0 xS1 zS
  have H31 := Lib.hid (H24.out.step b4)
  clear H24
  have H32 := Lib.hid (keep2 b4 H29.out)
  clear H29
  clear b4
  have H33 := Lib.hid (hO)
  clear hO
  have H34 := Lib.hid (H31.out.step (al u4 (.cells #[.int .i64 nx, .slice a2 P.length c2] 24)))
  clear H31
  have H35 := Lib.hid (H33.out.step (al u4 (.cells #[.int .i64 nx, .slice a2 P.length c2] 24)))
  clear H33
  have H36 := Lib.hid (keep2 (al u4 (.cells #[.int .i64 nx, .slice a2 P.length c2] 24)) H32.out)
  clear H32
  have H37 := Lib.hid (Cs.new u4 (u4.heap.size) #[.int .i64 nx, .slice a2 P.length c2] 24 (by simp))
  have xS10 : (u4.alloc (.cells #[.int .i64 nx, .slice a2 P.length c2] 24)).cell? ⟨(u4.heap.size), 0, none⟩ = some (.int .i64 nx) := H37.out.c 0 rfl
  have xS11 : (u4.alloc (.cells #[.int .i64 nx, .slice a2 P.length c2] 24)).cell? ⟨(u4.heap.size), 1, none⟩ = some (.slice a2 P.length c2) := H37.out.c 1 rfl
  have zS1 : (u4.heap.size) < (u4.alloc (.cells #[.int .i64 nx, .slice a2 P.length c2] 24)).heap.size := H37.out.2.2
  go_wp2_with fail
  refine (confirm_to HC2.out HR2.out _ _ _ H35.out HQ1.out).mono ?_
  rintro e u5 ⟨c3, a3, rfl, hO, b5⟩
  clear xS10 xS11 zS1
  have H38 := Lib.hid (H34.out.step b5)
  clear H34
  have H39 := Lib.hid (H35.out.step b5)
  clear H35
  have H40 := Lib.hid (H37.out.step b5)
  clear H37
  have H41 := Lib.hid (keep2 b5 H36.out)
  clear H36
  clear b5
  have H42 := Lib.hid (hO)
  clear hO
  have H43 := Lib.hid (H38.out.step (al u5 (.cells #[.int .i64 nx, .slice a3 P.length c3] 24)))
  clear H38
  have H44 := Lib.hid (H39.out.step (al u5 (.cells #[.int .i64 nx, .slice a3 P.length c3] 24)))
  clear H39
  have H45 := Lib.hid (H40.out.step (al u5 (.cells #[.int .i64 nx, .slice a3 P.length c3] 24)))
  clear H40
  have H46 := Lib.hid (H42.out.step (al u5 (.cells #[.int .i64 nx, .slice a3 P.length c3] 24)))
  clear H42
  have H47 := Lib.hid (keep2 (al u5 (.cells #[.int .i64 nx, .slice a3 P.length c3] 24)) H41.out)
  clear H41
  have H48 := Lib.hid (Cs.new u5 (u5.heap.size) #[.int .i64 nx, .slice a3 P.length c3] 24 (by simp))
  have xS10 : (u5.alloc (.cells #[.int .i64 nx, .slice a3 P.length c3] 24)).cell? ⟨(u4.heap.size), 0, none⟩ = some (.int .i64 nx) := H45.out.c 0 rfl
  have xS11 : (u5.alloc (.cells #[.int .i64 nx, .slice a3 P.length c3] 24)).cell? ⟨(u4.heap.size), 1, none⟩ = some (.slice a2 P.length c2) := H45.out.c 1 rfl
  have zS1 : (u4.heap.size) < (u5.alloc (.cells #[.int .i64 nx, .slice a3 P.length c3] 24)).heap.size := H45.out.2.2
  have xS20 : (u5.alloc (.cells #[.int .i64 nx, .slice a3 P.length c3] 24)).cell? ⟨(u5.heap.size), 0, none⟩ = some (.int .i64 nx) := H48.out.c 0 rfl
  have xS21 : (u5.alloc (.cells #[.int .i64 nx, .slice a3 P.length c3] 24)).cell? ⟨(u5.heap.size), 1, none⟩ = some (.slice a3 P.length c3) := H48.out.c 1 rfl
  have zS2 : (u5.heap.size) < (u5.alloc (.cells #[.int .i64 nx, .slice a3 P.length c3] 24)).heap.size := H48.out.2.2
  go_wp2_with fail
  refine (sames_any nx _ _ _ _ P _ H44.out H46.out).mono ?_
  rintro e u6 ⟨rfl, b6⟩
  clear xS10 xS11 zS1 xS20 xS21 zS2
  have H49 := Lib.hid (H43.out.step b6)
  clear H43
  have H50 := Lib.hid (H44.out.step b6)
  clear H44
  have H51 := Lib.hid (H45.out.step b6)
  clear H45
  have H52 := Lib.hid (H46.out.step b6)
  clear H46
  have H53 := Lib.hid (H48.out.step b6)
  clear H48
  have H54 := Lib.hid (keep2 b6 H47.out)
  clear H47
  clear b6
  clear H53
  clear H52
  have xS0 : u6.cell? ⟨(w.heap.size), 0, none⟩ = some (.int .i64 nx) := H49.out.c 0 rfl
  have xS1 : u6.cell? ⟨(w.heap.size), 1, none⟩ = some (.slice xa P.length xc) := H49.out.c 1 rfl
  have zS : (w.heap.size) < u6.heap.size := H49.out.2.2
  have xS10 : u6.cell? ⟨(u4.heap.size), 0, none⟩ = some (.int .i64 nx) := H51.out.c 0 rfl
  have xS11 : u6.cell? ⟨(u4.heap.size), 1, none⟩ = some (.slice a2 P.length c2) := H51.out.c 1 rfl
  have zS1 : (u4.heap.size) < u6.heap.size := H51.out.2.2
  go_wp2_with fail
  refine (rsender_any nx xa xc P true (by have h := HRR.out; simpa using h) _ (HP.out.step H54.out)).mono ?_
  rintro e u7 ⟨rfl, b7⟩
  clear xS0 xS1 zS xS10 xS11 zS1
  have H55 := Lib.hid (H49.out.step b7)
  clear H49
  have H56 := Lib.hid (H50.out.step b7)
  clear H50
  have H57 := Lib.hid (H51.out.step b7)
  clear H51
  have H58 := Lib.hid (keep2 b7 H54.out)
  clear H54
  clear b7
  have xS0 : u7.cell? ⟨(w.heap.size), 0, none⟩ = some (.int .i64 nx) := H55.out.c 0 rfl
  have xS1 : u7.cell? ⟨(w.heap.size), 1, none⟩ = some (.slice xa P.length xc) := H55.out.c 1 rfl
  have zS : (w.heap.size) < u7.heap.size := H55.out.2.2
  have xS10 : u7.cell? ⟨(u4.heap.size), 0, none⟩ = some (.int .i64 nx) := H57.out.c 0 rfl
  have xS11 : u7.cell? ⟨(u4.heap.size), 1, none⟩ = some (.slice a2 P.length c2) := H57.out.c 1 rfl
  have zS1 : (u4.heap.size) < u7.heap.size := H57.out.2.2
  go_wp2_with fail
  refine (has_any _ P q _ (HP.out.step H58.out)).mono ?_
  rintro e u8 ⟨rfl, b8⟩
  clear xS0 xS1 zS xS10 xS11 zS1
  have H59 := Lib.hid (H55.out.step b8)
  clear H55
  have H60 := Lib.hid (H56.out.step b8)
  clear H56
  have H61 := Lib.hid (H57.out.step b8)
  clear H57
  have H62 := Lib.hid (keep2 b8 H58.out)
  clear H58
  clear b8
  rw [HH.out]
  have xS0 : u8.cell? ⟨(w.heap.size), 0, none⟩ = some (.int .i64 nx) := H59.out.c 0 rfl
  have xS1 : u8.cell? ⟨(w.heap.size), 1, none⟩ = some (.slice xa P.length xc) := H59.out.c 1 rfl
  have zS : (w.heap.size) < u8.heap.size := H59.out.2.2
  have xS10 : u8.cell? ⟨(u4.heap.size), 0, none⟩ = some (.int .i64 nx) := H61.out.c 0 rfl
  have xS11 : u8.cell? ⟨(u4.heap.size), 1, none⟩ = some (.slice a2 P.length c2) := H61.out.c 1 rfl
  have zS1 : (u4.heap.size) < u8.heap.size := H61.out.2.2
  go_wp2_with fail
  refine (sames_any nx _ _ _ _ P _ H60.out (HP.out.step H62.out)).mono ?_
  rintro e u9 ⟨rfl, b9⟩
  clear xS0 xS1 zS xS10 xS11 zS1
  have H63 := Lib.hid (H59.out.step b9)
  clear H59
  have H64 := Lib.hid (H60.out.step b9)
  clear H60
  have H65 := Lib.hid (H61.out.step b9)
  clear H61
  have H66 := Lib.hid (keep2 b9 H62.out)
  clear H62
  clear b9
  go_wp2
  go_ret
  exact ⟨rfl, H66.out⟩
set_option maxRecDepth 100000 in
set_option maxHeartbeats 8000000 in
theorem errors_o_in (nx t f dn a b c d q : Int) (r2 : Bool) (Q : List Od) (T F D : Int) (A : List Bool) (V : List Int) (xa sa va : Option Addr) (xc sc vc : Nat) (P : List Od) (L : List Bool) (l : List Int) (w : World) (hp : OdsAt w (.slice xa P.length xc) P) (hs : BosAt w (.slice sa L.length sc) L) (hc : L.length ≤ sc) (hv : IntsAt w (.slice va l.length vc) l) (hsm : (decide (P.length ≤ 30) && (decide (l.length ≤ 30) && decide (L.length ≤ 30))) = true) (hrw : RW t L f l dn a b c d T A F V D true 0) (hr : true = true ↔ SnP nx P) (hr2 : r2 = true ↔ SnP nx Q) (h1 : cfL nx q P true = Q) (h2 : cfL nx q Q r2 = Q) (hq1 : Q.length ≤ 100000) (hh : (P.any fun x => x.a == q) = true) (hh1 : (Q.any fun x => x.a == q) = false) (hl1 : Q.length + 1 = P.length) :
    Calls Try.prog 8 #[.agg #[.int .i64 nx, .slice xa P.length xc], .agg #[.int .i64 t, .slice sa L.length sc, .int .i64 f, .slice va l.length vc, .int .i64 dn], .agg #[.int .i64 a, .int .i64 b, .int .i64 c, .int .i64 d], .int .i64 q] w fun e w' => e = .returned (.bool true) ∧ Below w.heap.size w w' := by
  have HP := Lib.hid hp
  have HS := Lib.hid hs
  have HV := Lib.hid hv
  have HCP := Lib.hid hc
  have HSM := Lib.hid hsm
  clear hp hs hv hc hsm
  have HLN := Lib.hid (show P.length ≤ 100000 ∧ L.length ≤ 100000 ∧ l.length ≤ 100000 by have := HSM.out; simp at this; omega)
  have HRW := Lib.hid hrw
  have HRR := Lib.hid hr
  have HR2 := Lib.hid hr2
  have HC1 := Lib.hid h1
  have HC2 := Lib.hid h2
  have HQ1 := Lib.hid hq1
  clear hrw hr hr2 h1 h2 hq1
  have HH := Lib.hid hh
  have HH1 := Lib.hid hh1
  have HL1 := Lib.hid hl1
  have w1 : wrap64 ((P.length : Int) - 1) = (Q.length : Int) := by rw [IntWalk.wrap64_in _ (by have := HLN.out; omega)]; have := HL1.out; omega
  clear hh hh1 hl1
  have H0 := Lib.hid (Below.refl w.heap.size w)
  have H1 := Lib.hid (keep2 (al w (.cells #[.int .i64 nx, .slice xa P.length xc] 24)) H0.out)
  clear H0
  have H2 := Lib.hid (Cs.new w (w.heap.size) #[.int .i64 nx, .slice xa P.length xc] 24 (by simp))
  have H3 := Lib.hid (H2.out.step (al (w.alloc (.cells #[.int .i64 nx, .slice xa P.length xc] 24)) (.cells #[.int .i64 t, .slice sa L.length sc, .int .i64 f, .slice va l.length vc, .int .i64 dn] 30)))
  clear H2
  have H4 := Lib.hid (keep2 (al (w.alloc (.cells #[.int .i64 nx, .slice xa P.length xc] 24)) (.cells #[.int .i64 t, .slice sa L.length sc, .int .i64 f, .slice va l.length vc, .int .i64 dn] 30)) H1.out)
  clear H1
  have H5 := Lib.hid (Cs.new (w.alloc (.cells #[.int .i64 nx, .slice xa P.length xc] 24)) (w.heap.size + 1) #[.int .i64 t, .slice sa L.length sc, .int .i64 f, .slice va l.length vc, .int .i64 dn] 30 (by simp))
  have H6 := Lib.hid (H3.out.step (al ((w.alloc (.cells #[.int .i64 nx, .slice xa P.length xc] 24)).alloc (.cells #[.int .i64 t, .slice sa L.length sc, .int .i64 f, .slice va l.length vc, .int .i64 dn] 30)) (.cells #[.int .i64 a, .int .i64 b, .int .i64 c, .int .i64 d] 32)))
  clear H3
  have H7 := Lib.hid (H5.out.step (al ((w.alloc (.cells #[.int .i64 nx, .slice xa P.length xc] 24)).alloc (.cells #[.int .i64 t, .slice sa L.length sc, .int .i64 f, .slice va l.length vc, .int .i64 dn] 30)) (.cells #[.int .i64 a, .int .i64 b, .int .i64 c, .int .i64 d] 32)))
  clear H5
  have H8 := Lib.hid (keep2 (al ((w.alloc (.cells #[.int .i64 nx, .slice xa P.length xc] 24)).alloc (.cells #[.int .i64 t, .slice sa L.length sc, .int .i64 f, .slice va l.length vc, .int .i64 dn] 30)) (.cells #[.int .i64 a, .int .i64 b, .int .i64 c, .int .i64 d] 32)) H4.out)
  clear H4
  have H9 := Lib.hid (Cs.new ((w.alloc (.cells #[.int .i64 nx, .slice xa P.length xc] 24)).alloc (.cells #[.int .i64 t, .slice sa L.length sc, .int .i64 f, .slice va l.length vc, .int .i64 dn] 30)) (w.heap.size + 1 + 1) #[.int .i64 a, .int .i64 b, .int .i64 c, .int .i64 d] 32 (by simp))
  go_enter Try.func8, Try.ntmps8
  go_wp2_with fail
  refine (head_any _).mono ?_
  rintro e u1 ⟨rfl, b1⟩
  have H10 := Lib.hid (H6.out.step b1)
  clear H6
  have H11 := Lib.hid (H7.out.step b1)
  clear H7
  have H12 := Lib.hid (H9.out.step b1)
  clear H9
  have H13 := Lib.hid (keep2 b1 H8.out)
  clear H8
  clear b1
  have xS0 : u1.cell? ⟨(w.heap.size), 0, none⟩ = some (.int .i64 nx) := H10.out.c 0 rfl
  have xS1 : u1.cell? ⟨(w.heap.size), 1, none⟩ = some (.slice xa P.length xc) := H10.out.c 1 rfl
  have zS : (w.heap.size) < u1.heap.size := H10.out.2.2
  have xR0 : u1.cell? ⟨(w.heap.size + 1), 0, none⟩ = some (.int .i64 t) := H11.out.c 0 rfl
  have xR1 : u1.cell? ⟨(w.heap.size + 1), 1, none⟩ = some (.slice sa L.length sc) := H11.out.c 1 rfl
  have xR2 : u1.cell? ⟨(w.heap.size + 1), 2, none⟩ = some (.int .i64 f) := H11.out.c 2 rfl
  have xR3 : u1.cell? ⟨(w.heap.size + 1), 3, none⟩ = some (.slice va l.length vc) := H11.out.c 3 rfl
  have xR4 : u1.cell? ⟨(w.heap.size + 1), 4, none⟩ = some (.int .i64 dn) := H11.out.c 4 rfl
  have zR : (w.heap.size + 1) < u1.heap.size := H11.out.2.2
  go_wp2_with fail
  refine (small_any nx t f dn xa sa va P.length L.length l.length xc sc vc true HSM.out _).mono ?_
  rintro e u2 ⟨rfl, b2⟩
  clear xS0 xS1 zS xR0 xR1 xR2 xR3 xR4 zR
  have H14 := Lib.hid (H10.out.step b2)
  clear H10
  have H15 := Lib.hid (H11.out.step b2)
  clear H11
  have H16 := Lib.hid (H12.out.step b2)
  clear H12
  have H17 := Lib.hid (keep2 b2 H13.out)
  clear H13
  clear b2
  have xR0 : u2.cell? ⟨(w.heap.size + 1), 0, none⟩ = some (.int .i64 t) := H15.out.c 0 rfl
  have xR1 : u2.cell? ⟨(w.heap.size + 1), 1, none⟩ = some (.slice sa L.length sc) := H15.out.c 1 rfl
  have xR2 : u2.cell? ⟨(w.heap.size + 1), 2, none⟩ = some (.int .i64 f) := H15.out.c 2 rfl
  have xR3 : u2.cell? ⟨(w.heap.size + 1), 3, none⟩ = some (.slice va l.length vc) := H15.out.c 3 rfl
  have xR4 : u2.cell? ⟨(w.heap.size + 1), 4, none⟩ = some (.int .i64 dn) := H15.out.c 4 rfl
  have zR : (w.heap.size + 1) < u2.heap.size := H15.out.2.2
  have xO0 : u2.cell? ⟨(w.heap.size + 1 + 1), 0, none⟩ = some (.int .i64 a) := H16.out.c 0 rfl
  have xO1 : u2.cell? ⟨(w.heap.size + 1 + 1), 1, none⟩ = some (.int .i64 b) := H16.out.c 1 rfl
  have xO2 : u2.cell? ⟨(w.heap.size + 1 + 1), 2, none⟩ = some (.int .i64 c) := H16.out.c 2 rfl
  have xO3 : u2.cell? ⟨(w.heap.size + 1 + 1), 3, none⟩ = some (.int .i64 d) := H16.out.c 3 rfl
  have zO : (w.heap.size + 1 + 1) < u2.heap.size := H16.out.2.2
  go_wp2_with fail
  refine (receive_is HRW.out _ _ _ (HS.out.step H17.out) (HV.out.step H17.out) HLN.out.2.1 HLN.out.2.2).mono ?_
  rintro e u3 ⟨c1, d1, a1, v1, rfl, hq, hB, hI, b3, hG, hK⟩
  clear xR0 xR1 xR2 xR3 xR4 zR xO0 xO1 xO2 xO3 zO
  have H18 := Lib.hid (H14.out.step b3)
  clear H14
  have H19 := Lib.hid (H15.out.step b3)
  clear H15
  have H20 := Lib.hid (H16.out.step b3)
  clear H16
  have H21 := Lib.hid (keep2 b3 H17.out)
  clear H17
  clear b3
  clear hG hK hq
  have H22 := Lib.hid (hB)
  have H23 := Lib.hid (hI)
  clear hB hI
  have H24 := Lib.hid (H18.out.step (al u3 (.cells #[.int .i64 T, .slice a1 A.length c1, .int .i64 F, .slice v1 l.length d1, .int .i64 D] 30)))
  clear H18
  have H25 := Lib.hid (H19.out.step (al u3 (.cells #[.int .i64 T, .slice a1 A.length c1, .int .i64 F, .slice v1 l.length d1, .int .i64 D] 30)))
  clear H19
  have H26 := Lib.hid (H20.out.step (al u3 (.cells #[.int .i64 T, .slice a1 A.length c1, .int .i64 F, .slice v1 l.length d1, .int .i64 D] 30)))
  clear H20
  have H27 := Lib.hid (H22.out.step (al u3 (.cells #[.int .i64 T, .slice a1 A.length c1, .int .i64 F, .slice v1 l.length d1, .int .i64 D] 30)))
  clear H22
  have H28 := Lib.hid (H23.out.step (al u3 (.cells #[.int .i64 T, .slice a1 A.length c1, .int .i64 F, .slice v1 l.length d1, .int .i64 D] 30)))
  clear H23
  have H29 := Lib.hid (keep2 (al u3 (.cells #[.int .i64 T, .slice a1 A.length c1, .int .i64 F, .slice v1 l.length d1, .int .i64 D] 30)) H21.out)
  clear H21
  have H30 := Lib.hid (Cs.new u3 (u3.heap.size) #[.int .i64 T, .slice a1 A.length c1, .int .i64 F, .slice v1 l.length d1, .int .i64 D] 30 (by simp))
  have xS0 : (u3.alloc (.cells #[.int .i64 T, .slice a1 A.length c1, .int .i64 F, .slice v1 l.length d1, .int .i64 D] 30)).cell? ⟨(w.heap.size), 0, none⟩ = some (.int .i64 nx) := H24.out.c 0 rfl
  have xS1 : (u3.alloc (.cells #[.int .i64 T, .slice a1 A.length c1, .int .i64 F, .slice v1 l.length d1, .int .i64 D] 30)).cell? ⟨(w.heap.size), 1, none⟩ = some (.slice xa P.length xc) := H24.out.c 1 rfl
  have zS : (w.heap.size) < (u3.alloc (.cells #[.int .i64 T, .slice a1 A.length c1, .int .i64 F, .slice v1 l.length d1, .int .i64 D] 30)).heap.size := H24.out.2.2
  go_wp2_with fail
  clear H30
  clear H27
  clear H28
  clear H25
  clear H26
  refine (confirm_to HC1.out (by have h := HRR.out; simpa using h) _ _ _ (HP.out.step H29.out) HLN.out.1).mono ?_
  rintro e u4 ⟨c2, a2, rfl, hO, b4⟩
  clear xS0 xS1 zS
  have H31 := Lib.hid (H24.out.step b4)
  clear H24
  have H32 := Lib.hid (keep2 b4 H29.out)
  clear H29
  clear b4
  have H33 := Lib.hid (hO)
  clear hO
  have H34 := Lib.hid (H31.out.step (al u4 (.cells #[.int .i64 nx, .slice a2 Q.length c2] 24)))
  clear H31
  have H35 := Lib.hid (H33.out.step (al u4 (.cells #[.int .i64 nx, .slice a2 Q.length c2] 24)))
  clear H33
  have H36 := Lib.hid (keep2 (al u4 (.cells #[.int .i64 nx, .slice a2 Q.length c2] 24)) H32.out)
  clear H32
  have H37 := Lib.hid (Cs.new u4 (u4.heap.size) #[.int .i64 nx, .slice a2 Q.length c2] 24 (by simp))
  have xS10 : (u4.alloc (.cells #[.int .i64 nx, .slice a2 Q.length c2] 24)).cell? ⟨(u4.heap.size), 0, none⟩ = some (.int .i64 nx) := H37.out.c 0 rfl
  have xS11 : (u4.alloc (.cells #[.int .i64 nx, .slice a2 Q.length c2] 24)).cell? ⟨(u4.heap.size), 1, none⟩ = some (.slice a2 Q.length c2) := H37.out.c 1 rfl
  have zS1 : (u4.heap.size) < (u4.alloc (.cells #[.int .i64 nx, .slice a2 Q.length c2] 24)).heap.size := H37.out.2.2
  go_wp2_with fail
  refine (confirm_to HC2.out HR2.out _ _ _ H35.out HQ1.out).mono ?_
  rintro e u5 ⟨c3, a3, rfl, hO, b5⟩
  clear xS10 xS11 zS1
  have H38 := Lib.hid (H34.out.step b5)
  clear H34
  have H39 := Lib.hid (H35.out.step b5)
  clear H35
  have H40 := Lib.hid (H37.out.step b5)
  clear H37
  have H41 := Lib.hid (keep2 b5 H36.out)
  clear H36
  clear b5
  have H42 := Lib.hid (hO)
  clear hO
  have H43 := Lib.hid (H38.out.step (al u5 (.cells #[.int .i64 nx, .slice a3 Q.length c3] 24)))
  clear H38
  have H44 := Lib.hid (H39.out.step (al u5 (.cells #[.int .i64 nx, .slice a3 Q.length c3] 24)))
  clear H39
  have H45 := Lib.hid (H40.out.step (al u5 (.cells #[.int .i64 nx, .slice a3 Q.length c3] 24)))
  clear H40
  have H46 := Lib.hid (H42.out.step (al u5 (.cells #[.int .i64 nx, .slice a3 Q.length c3] 24)))
  clear H42
  have H47 := Lib.hid (keep2 (al u5 (.cells #[.int .i64 nx, .slice a3 Q.length c3] 24)) H41.out)
  clear H41
  have H48 := Lib.hid (Cs.new u5 (u5.heap.size) #[.int .i64 nx, .slice a3 Q.length c3] 24 (by simp))
  have xS10 : (u5.alloc (.cells #[.int .i64 nx, .slice a3 Q.length c3] 24)).cell? ⟨(u4.heap.size), 0, none⟩ = some (.int .i64 nx) := H45.out.c 0 rfl
  have xS11 : (u5.alloc (.cells #[.int .i64 nx, .slice a3 Q.length c3] 24)).cell? ⟨(u4.heap.size), 1, none⟩ = some (.slice a2 Q.length c2) := H45.out.c 1 rfl
  have zS1 : (u4.heap.size) < (u5.alloc (.cells #[.int .i64 nx, .slice a3 Q.length c3] 24)).heap.size := H45.out.2.2
  have xS20 : (u5.alloc (.cells #[.int .i64 nx, .slice a3 Q.length c3] 24)).cell? ⟨(u5.heap.size), 0, none⟩ = some (.int .i64 nx) := H48.out.c 0 rfl
  have xS21 : (u5.alloc (.cells #[.int .i64 nx, .slice a3 Q.length c3] 24)).cell? ⟨(u5.heap.size), 1, none⟩ = some (.slice a3 Q.length c3) := H48.out.c 1 rfl
  have zS2 : (u5.heap.size) < (u5.alloc (.cells #[.int .i64 nx, .slice a3 Q.length c3] 24)).heap.size := H48.out.2.2
  go_wp2_with fail
  refine (sames_any nx _ _ _ _ Q _ H44.out H46.out).mono ?_
  rintro e u6 ⟨rfl, b6⟩
  clear xS10 xS11 zS1 xS20 xS21 zS2
  have H49 := Lib.hid (H43.out.step b6)
  clear H43
  have H50 := Lib.hid (H44.out.step b6)
  clear H44
  have H51 := Lib.hid (H45.out.step b6)
  clear H45
  have H52 := Lib.hid (H46.out.step b6)
  clear H46
  have H53 := Lib.hid (H48.out.step b6)
  clear H48
  have H54 := Lib.hid (keep2 b6 H47.out)
  clear H47
  clear b6
  clear H53
  clear H52
  have xS0 : u6.cell? ⟨(w.heap.size), 0, none⟩ = some (.int .i64 nx) := H49.out.c 0 rfl
  have xS1 : u6.cell? ⟨(w.heap.size), 1, none⟩ = some (.slice xa P.length xc) := H49.out.c 1 rfl
  have zS : (w.heap.size) < u6.heap.size := H49.out.2.2
  have xS10 : u6.cell? ⟨(u4.heap.size), 0, none⟩ = some (.int .i64 nx) := H51.out.c 0 rfl
  have xS11 : u6.cell? ⟨(u4.heap.size), 1, none⟩ = some (.slice a2 Q.length c2) := H51.out.c 1 rfl
  have zS1 : (u4.heap.size) < u6.heap.size := H51.out.2.2
  go_wp2_with fail
  refine (rsender_any nx xa xc P true (by have h := HRR.out; simpa using h) _ (HP.out.step H54.out)).mono ?_
  rintro e u7 ⟨rfl, b7⟩
  clear xS0 xS1 zS xS10 xS11 zS1
  have H55 := Lib.hid (H49.out.step b7)
  clear H49
  have H56 := Lib.hid (H50.out.step b7)
  clear H50
  have H57 := Lib.hid (H51.out.step b7)
  clear H51
  have H58 := Lib.hid (keep2 b7 H54.out)
  clear H54
  clear b7
  have xS0 : u7.cell? ⟨(w.heap.size), 0, none⟩ = some (.int .i64 nx) := H55.out.c 0 rfl
  have xS1 : u7.cell? ⟨(w.heap.size), 1, none⟩ = some (.slice xa P.length xc) := H55.out.c 1 rfl
  have zS : (w.heap.size) < u7.heap.size := H55.out.2.2
  have xS10 : u7.cell? ⟨(u4.heap.size), 0, none⟩ = some (.int .i64 nx) := H57.out.c 0 rfl
  have xS11 : u7.cell? ⟨(u4.heap.size), 1, none⟩ = some (.slice a2 Q.length c2) := H57.out.c 1 rfl
  have zS1 : (u4.heap.size) < u7.heap.size := H57.out.2.2
  go_wp2_with fail
  refine (has_any _ P q _ (HP.out.step H58.out)).mono ?_
  rintro e u8 ⟨rfl, b8⟩
  clear xS0 xS1 zS xS10 xS11 zS1
  have H59 := Lib.hid (H55.out.step b8)
  clear H55
  have H60 := Lib.hid (H56.out.step b8)
  clear H56
  have H61 := Lib.hid (H57.out.step b8)
  clear H57
  have H62 := Lib.hid (keep2 b8 H58.out)
  clear H58
  clear b8
  rw [HH.out]
  have xS0 : u8.cell? ⟨(w.heap.size), 0, none⟩ = some (.int .i64 nx) := H59.out.c 0 rfl
  have xS1 : u8.cell? ⟨(w.heap.size), 1, none⟩ = some (.slice xa P.length xc) := H59.out.c 1 rfl
  have zS : (w.heap.size) < u8.heap.size := H59.out.2.2
  have xS10 : u8.cell? ⟨(u4.heap.size), 0, none⟩ = some (.int .i64 nx) := H61.out.c 0 rfl
  have xS11 : u8.cell? ⟨(u4.heap.size), 1, none⟩ = some (.slice a2 Q.length c2) := H61.out.c 1 rfl
  have zS1 : (u4.heap.size) < u8.heap.size := H61.out.2.2
  go_wp2_with fail
  refine (has_any _ Q q _ H60.out).mono ?_
  rintro e u9 ⟨rfl, b9⟩
  clear xS0 xS1 zS xS10 xS11 zS1
  have H63 := Lib.hid (H59.out.step b9)
  clear H59
  have H64 := Lib.hid (H60.out.step b9)
  clear H60
  have H65 := Lib.hid (H61.out.step b9)
  clear H61
  have H66 := Lib.hid (keep2 b9 H62.out)
  clear H62
  clear b9
  rw [HH1.out]
  go_wp2
  go_ret
  exact ⟨rfl, H66.out⟩
end Go.Proofs.Ytkamkkjijjkfdaa
