import Derived.Test.YteodafhgfcbdpaaUnb
namespace Go.Proofs.Yteodafhgfcbdpaa
open Go.RowKit

set_option maxRecDepth 100000 in
set_option maxHeartbeats 8000000 in
theorem head_any (w : World) : Calls Try.prog 9 #[] w fun e w' => e = .returned (.bool true) ∧ Below w.heap.size w w' := by
  have H0 := Lib.hid (Below.refl w.heap.size w)
  go_enter Try.func9, Try.ntmps9
  have H2 := Lib.hid (Cs.newB H0.out (w.heap.size) #[.int .i64 1, .int .i64 2, .int .i64 3, .int .i64 4, .int .i64 5] 3 (by simp))
  have H3 := Lib.hid (keep2 (al _ (.cells #[.int .i64 1, .int .i64 2, .int .i64 3, .int .i64 4, .int .i64 5] 3)) H0.out)
  clear H0
  go_wp2_with fail
  refine (split_any 9 4 2 _ 5 [1, 2, 3, 4, 5] _ (ints_lit _ [1, 2, 3, 4, 5] #[.int .i64 1, .int .i64 2, .int .i64 3, .int .i64 4, .int .i64 5] 3 rfl (by simp) 5 rfl (w.heap.size) (by simp)) (by simp) (by simp) hd_spE0 hd_spM0_ hd_spL0).mono ?_
  rintro e u1 ⟨u, rfl, hu, b1⟩
  have H4 := Lib.hid (H2.out.step b1)
  clear H2
  have H5 := Lib.hid (keep2 b1 H3.out)
  clear H3
  clear b1
  obtain ⟨b, off, cc, q, r, rfl, hP⟩ := P3At.of hu
  clear hu
  have H6 := Lib.hid (hP)
  obtain ⟨pb, po, hq5, hy5, hpl⟩ := hP.alone
  have HQ5 := Lib.hid hq5
  have HPB := Lib.hid hpl
  have H7 := Lib.hid (YA.mk hy5 hpl)
  clear hP hq5 hy5 hpl
  have H8 := Lib.hid (Cs.newB H5.out (u1.heap.size) #[.int .i64 4, .int .i64 3, .int .i64 2, .int .i64 49659217, .int .i64 1453941846] 24 (by simp))
  have H9 := Lib.hid (H4.out.step (al _ (.cells #[.int .i64 4, .int .i64 3, .int .i64 2, .int .i64 49659217, .int .i64 1453941846] 24)))
  clear H4
  have H10 := Lib.hid (H6.out.step (al _ (.cells #[.int .i64 4, .int .i64 3, .int .i64 2, .int .i64 49659217, .int .i64 1453941846] 24)))
  clear H6
  have H11 := Lib.hid (H7.out.step (al _ (.cells #[.int .i64 4, .int .i64 3, .int .i64 2, .int .i64 49659217, .int .i64 1453941846] 24)))
  clear H7
  have H12 := Lib.hid (keep2 (al _ (.cells #[.int .i64 4, .int .i64 3, .int .i64 2, .int .i64 49659217, .int .i64 1453941846] 24)) H5.out)
  clear H5
  have xm0 := H8.out.c 0 rfl
  have xm1 := H8.out.c 1 rfl
  have xm2 := H8.out.c 2 rfl
  have xm3 := H8.out.c 3 rfl
  have xm4 := H8.out.c 4 rfl
  have zm := H8.out.2.2
  have yp0 : (u1.alloc (.cells #[.int .i64 4, .int .i64 3, .int .i64 2, .int .i64 49659217, .int .i64 1453941846] 24)).cell? ⟨b, off, none⟩ = some (.int .i64 0) := H10.out.c0
  have yp1 : (u1.alloc (.cells #[.int .i64 4, .int .i64 3, .int .i64 2, .int .i64 49659217, .int .i64 1453941846] 24)).cell? ⟨b, off + 1, none⟩ = some (.slice (q 0) 2 (r 0)) := H10.out.c1
  have yp2 : (u1.alloc (.cells #[.int .i64 4, .int .i64 3, .int .i64 2, .int .i64 49659217, .int .i64 1453941846] 24)).cell? ⟨b, off + 2, none⟩ = some (.slice (q 1) 2 (r 1)) := H10.out.c2
  have yp3 : (u1.alloc (.cells #[.int .i64 4, .int .i64 3, .int .i64 2, .int .i64 49659217, .int .i64 1453941846] 24)).cell? ⟨b, off + 3, none⟩ = some (.int .i64 1) := H10.out.c3
  have yp4 : (u1.alloc (.cells #[.int .i64 4, .int .i64 3, .int .i64 2, .int .i64 49659217, .int .i64 1453941846] 24)).cell? ⟨b, off + 3 + 1, none⟩ = some (.slice (q 2) 2 (r 2)) := H10.out.c4
  have yp5 : (u1.alloc (.cells #[.int .i64 4, .int .i64 3, .int .i64 2, .int .i64 49659217, .int .i64 1453941846] 24)).cell? ⟨b, off + 3 + 2, none⟩ = some (.slice (q 3) 2 (r 3)) := H10.out.c5
  have yp6 : (u1.alloc (.cells #[.int .i64 4, .int .i64 3, .int .i64 2, .int .i64 49659217, .int .i64 1453941846] 24)).cell? ⟨b, off + 6, none⟩ = some (.int .i64 2) := H10.out.c6
  have yp7 : (u1.alloc (.cells #[.int .i64 4, .int .i64 3, .int .i64 2, .int .i64 49659217, .int .i64 1453941846] 24)).cell? ⟨b, off + 6 + 1, none⟩ = some (.slice (q 4) 1 (r 4)) := H10.out.c7
  have yp8 : (u1.alloc (.cells #[.int .i64 4, .int .i64 3, .int .i64 2, .int .i64 49659217, .int .i64 1453941846] 24)).cell? ⟨b, off + 6 + 2, none⟩ = some (.slice (some ⟨pb, po, none⟩) 2 (r 5)) := (by rw [← HQ5.out]; exact H10.out.c8)
  have ypz : b < (u1.alloc (.cells #[.int .i64 4, .int .i64 3, .int .i64 2, .int .i64 49659217, .int .i64 1453941846] 24)).heap.size := H10.out.lt
  have yy : (u1.alloc (.cells #[.int .i64 4, .int .i64 3, .int .i64 2, .int .i64 49659217, .int .i64 1453941846] 24)).cell? ⟨pb, po, none⟩ = some (.int .i64 (-1)) := H11.out.c
  have yyz : pb < (u1.alloc (.cells #[.int .i64 4, .int .i64 3, .int .i64 2, .int .i64 49659217, .int .i64 1453941846] 24)).heap.size := H11.out.lt
  have H14 := Lib.hid (Cs.newB H12.out (u1.heap.size + 1) #[.int .i64 5] 3 (by simp))
  have H15 := Lib.hid (H9.out.step (al _ (.cells #[.int .i64 5] 3)))
  clear H9
  have H16 := Lib.hid (H10.out.step (al _ (.cells #[.int .i64 5] 3)))
  clear H10
  have H17 := Lib.hid (H11.out.step (al _ (.cells #[.int .i64 5] 3)))
  clear H11
  have H18 := Lib.hid (H8.out.step (al _ (.cells #[.int .i64 5] 3)))
  clear H8
  have H19 := Lib.hid (keep2 (al _ (.cells #[.int .i64 5] 3)) H12.out)
  clear H12
  go_wp2_with fail
  refine (ints_bel _ _ [5] [5] _ H16.out.d2 (ints_lit _ [5] #[.int .i64 5] 3 rfl (by simp) 1 rfl (u1.heap.size + 1) (by simp))).mono ?_
  rintro e u2 ⟨rfl, b2⟩
  clear xm0 xm1 xm2 xm3 xm4 zm yp0 yp1 yp2 yp3 yp4 yp5 yp6 yp7 yp8 ypz yy yyz
  have H20 := Lib.hid (H15.out.step b2)
  clear H15
  have H21 := Lib.hid (H16.out.step b2)
  clear H16
  have H22 := Lib.hid (H17.out.step b2)
  clear H17
  have H23 := Lib.hid (H18.out.step b2)
  clear H18
  have H24 := Lib.hid (H14.out.step b2)
  clear H14
  have H25 := Lib.hid (keep2 b2 H19.out)
  clear H19
  clear b2
  rw [decide_eq_true (rfl : ([5] : List Int) = [5])]
  have xm0 := H23.out.c 0 rfl
  have xm1 := H23.out.c 1 rfl
  have xm2 := H23.out.c 2 rfl
  have xm3 := H23.out.c 3 rfl
  have xm4 := H23.out.c 4 rfl
  have zm := H23.out.2.2
  have yp0 : u2.cell? ⟨b, off, none⟩ = some (.int .i64 0) := H21.out.c0
  have yp1 : u2.cell? ⟨b, off + 1, none⟩ = some (.slice (q 0) 2 (r 0)) := H21.out.c1
  have yp2 : u2.cell? ⟨b, off + 2, none⟩ = some (.slice (q 1) 2 (r 1)) := H21.out.c2
  have yp3 : u2.cell? ⟨b, off + 3, none⟩ = some (.int .i64 1) := H21.out.c3
  have yp4 : u2.cell? ⟨b, off + 3 + 1, none⟩ = some (.slice (q 2) 2 (r 2)) := H21.out.c4
  have yp5 : u2.cell? ⟨b, off + 3 + 2, none⟩ = some (.slice (q 3) 2 (r 3)) := H21.out.c5
  have yp6 : u2.cell? ⟨b, off + 6, none⟩ = some (.int .i64 2) := H21.out.c6
  have yp7 : u2.cell? ⟨b, off + 6 + 1, none⟩ = some (.slice (q 4) 1 (r 4)) := H21.out.c7
  have yp8 : u2.cell? ⟨b, off + 6 + 2, none⟩ = some (.slice (some ⟨pb, po, none⟩) 2 (r 5)) := (by rw [← HQ5.out]; exact H21.out.c8)
  have ypz : b < u2.heap.size := H21.out.lt
  have yy : u2.cell? ⟨pb, po, none⟩ = some (.int .i64 (-1)) := H22.out.c
  have yyz : pb < u2.heap.size := H22.out.lt
  go_wp2_with fail
  refine (begin_any 9 3 ⟨4, 3, 2, 49659217, 1453941846⟩ hd_bg1 hd_bgM1 hd_bgL1 _).mono ?_
  rintro e u3 ⟨u, rfl, hu, b3⟩
  clear xm0 xm1 xm2 xm3 xm4 zm yp0 yp1 yp2 yp3 yp4 yp5 yp6 yp7 yp8 ypz yy yyz
  have H26 := Lib.hid (H20.out.step b3)
  clear H20
  have H27 := Lib.hid (H21.out.step b3)
  clear H21
  have H28 := Lib.hid (H22.out.step b3)
  clear H22
  have H29 := Lib.hid (H23.out.step b3)
  clear H23
  have H30 := Lib.hid (H24.out.step b3)
  clear H24
  have H31 := Lib.hid (keep2 b3 H25.out)
  clear H25
  clear b3
  obtain ⟨sa, sc, rfl, -, -⟩ : ∃ (a : Option Addr) (c : Nat), u = .slice a 3 c ∧ True ∧ True := by
    obtain ⟨a, c, e, -⟩ := hu
    exact ⟨a, c, e, trivial, trivial⟩
  have H32 := Lib.hid (hu)
  clear hu
  have H33 := Lib.hid (Cs.newB H31.out (u3.heap.size) #[.int .i64 4, .int .i64 3, .int .i64 2, .int .i64 49659217, .int .i64 1453941846, .slice sa 3 sc] 27 (by simp))
  have H34 := Lib.hid (H26.out.step (al _ (.cells #[.int .i64 4, .int .i64 3, .int .i64 2, .int .i64 49659217, .int .i64 1453941846, .slice sa 3 sc] 27)))
  clear H26
  have H35 := Lib.hid (H27.out.step (al _ (.cells #[.int .i64 4, .int .i64 3, .int .i64 2, .int .i64 49659217, .int .i64 1453941846, .slice sa 3 sc] 27)))
  clear H27
  have H36 := Lib.hid (H28.out.step (al _ (.cells #[.int .i64 4, .int .i64 3, .int .i64 2, .int .i64 49659217, .int .i64 1453941846, .slice sa 3 sc] 27)))
  clear H28
  have H37 := Lib.hid (H29.out.step (al _ (.cells #[.int .i64 4, .int .i64 3, .int .i64 2, .int .i64 49659217, .int .i64 1453941846, .slice sa 3 sc] 27)))
  clear H29
  have H38 := Lib.hid (H30.out.step (al _ (.cells #[.int .i64 4, .int .i64 3, .int .i64 2, .int .i64 49659217, .int .i64 1453941846, .slice sa 3 sc] 27)))
  clear H30
  have H39 := Lib.hid (H32.out.step (al _ (.cells #[.int .i64 4, .int .i64 3, .int .i64 2, .int .i64 49659217, .int .i64 1453941846, .slice sa 3 sc] 27)))
  clear H32
  have H40 := Lib.hid (keep2 (al _ (.cells #[.int .i64 4, .int .i64 3, .int .i64 2, .int .i64 49659217, .int .i64 1453941846, .slice sa 3 sc] 27)) H31.out)
  clear H31
  have xm0 := H37.out.c 0 rfl
  have xm1 := H37.out.c 1 rfl
  have xm2 := H37.out.c 2 rfl
  have xm3 := H37.out.c 3 rfl
  have xm4 := H37.out.c 4 rfl
  have zm := H37.out.2.2
  go_wp2_with fail
  refine (begin_any 9 4 ⟨4, 3, 2, 49659217, 1453941846⟩ hd_bg2 hd_bgM2 hd_bgL2 _).mono ?_
  rintro e u4 ⟨u, rfl, hu, b4⟩
  clear xm0 xm1 xm2 xm3 xm4 zm
  have H41 := Lib.hid (H34.out.step b4)
  clear H34
  have H42 := Lib.hid (H35.out.step b4)
  clear H35
  have H43 := Lib.hid (H36.out.step b4)
  clear H36
  have H44 := Lib.hid (H37.out.step b4)
  clear H37
  have H45 := Lib.hid (H38.out.step b4)
  clear H38
  have H46 := Lib.hid (H39.out.step b4)
  clear H39
  have H47 := Lib.hid (H33.out.step b4)
  clear H33
  have H48 := Lib.hid (keep2 b4 H40.out)
  clear H40
  clear b4
  obtain ⟨uba, ubc, rfl, -, -⟩ : ∃ (a : Option Addr) (c : Nat), u = .slice a 0 c ∧ True ∧ True := by
    obtain ⟨a, c, e, -⟩ := hu
    exact ⟨a, c, e, trivial, trivial⟩
  clear hu
  dsimp only [zMf]
  have H49 := Lib.hid (Cs.newB H48.out (u4.heap.size) #[.int .i64 0, .int .i64 0, .int .i64 0, .int .i64 0, .int .i64 0, .slice uba 0 ubc] 27 (by simp))
  have H50 := Lib.hid (H41.out.step (al _ (.cells #[.int .i64 0, .int .i64 0, .int .i64 0, .int .i64 0, .int .i64 0, .slice uba 0 ubc] 27)))
  clear H41
  have H51 := Lib.hid (H42.out.step (al _ (.cells #[.int .i64 0, .int .i64 0, .int .i64 0, .int .i64 0, .int .i64 0, .slice uba 0 ubc] 27)))
  clear H42
  have H52 := Lib.hid (H43.out.step (al _ (.cells #[.int .i64 0, .int .i64 0, .int .i64 0, .int .i64 0, .int .i64 0, .slice uba 0 ubc] 27)))
  clear H43
  have H53 := Lib.hid (H44.out.step (al _ (.cells #[.int .i64 0, .int .i64 0, .int .i64 0, .int .i64 0, .int .i64 0, .slice uba 0 ubc] 27)))
  clear H44
  have H54 := Lib.hid (H45.out.step (al _ (.cells #[.int .i64 0, .int .i64 0, .int .i64 0, .int .i64 0, .int .i64 0, .slice uba 0 ubc] 27)))
  clear H45
  have H55 := Lib.hid (H46.out.step (al _ (.cells #[.int .i64 0, .int .i64 0, .int .i64 0, .int .i64 0, .int .i64 0, .slice uba 0 ubc] 27)))
  clear H46
  have H56 := Lib.hid (H47.out.step (al _ (.cells #[.int .i64 0, .int .i64 0, .int .i64 0, .int .i64 0, .int .i64 0, .slice uba 0 ubc] 27)))
  clear H47
  have H57 := Lib.hid (keep2 (al _ (.cells #[.int .i64 0, .int .i64 0, .int .i64 0, .int .i64 0, .int .i64 0, .slice uba 0 ubc] 27)) H48.out)
  clear H48
  have xm0 := H53.out.c 0 rfl
  have xm1 := H53.out.c 1 rfl
  have xm2 := H53.out.c 2 rfl
  have xm3 := H53.out.c 3 rfl
  have xm4 := H53.out.c 4 rfl
  have zm := H53.out.2.2
  go_wp2_with fail
  refine (begin_any 8 3 ⟨4, 3, 2, 49659217, 1453941846⟩ hd_bg3 hd_bgM3 hd_bgL3 _).mono ?_
  rintro e u5 ⟨u, rfl, hu, b5⟩
  clear xm0 xm1 xm2 xm3 xm4 zm
  have H58 := Lib.hid (H50.out.step b5)
  clear H50
  have H59 := Lib.hid (H51.out.step b5)
  clear H51
  have H60 := Lib.hid (H52.out.step b5)
  clear H52
  have H61 := Lib.hid (H53.out.step b5)
  clear H53
  have H62 := Lib.hid (H54.out.step b5)
  clear H54
  have H63 := Lib.hid (H55.out.step b5)
  clear H55
  have H64 := Lib.hid (H56.out.step b5)
  clear H56
  have H65 := Lib.hid (H49.out.step b5)
  clear H49
  have H66 := Lib.hid (keep2 b5 H57.out)
  clear H57
  clear b5
  obtain ⟨uca, ucc, rfl, -, -⟩ : ∃ (a : Option Addr) (c : Nat), u = .slice a 0 c ∧ True ∧ True := by
    obtain ⟨a, c, e, -⟩ := hu
    exact ⟨a, c, e, trivial, trivial⟩
  clear hu
  dsimp only [zMf]
  have H67 := Lib.hid (Cs.newB H66.out (u5.heap.size) #[.int .i64 0, .int .i64 0, .int .i64 0, .int .i64 0, .int .i64 0, .slice uca 0 ucc] 27 (by simp))
  have H68 := Lib.hid (H58.out.step (al _ (.cells #[.int .i64 0, .int .i64 0, .int .i64 0, .int .i64 0, .int .i64 0, .slice uca 0 ucc] 27)))
  clear H58
  have H69 := Lib.hid (H59.out.step (al _ (.cells #[.int .i64 0, .int .i64 0, .int .i64 0, .int .i64 0, .int .i64 0, .slice uca 0 ucc] 27)))
  clear H59
  have H70 := Lib.hid (H60.out.step (al _ (.cells #[.int .i64 0, .int .i64 0, .int .i64 0, .int .i64 0, .int .i64 0, .slice uca 0 ucc] 27)))
  clear H60
  have H71 := Lib.hid (H61.out.step (al _ (.cells #[.int .i64 0, .int .i64 0, .int .i64 0, .int .i64 0, .int .i64 0, .slice uca 0 ucc] 27)))
  clear H61
  have H72 := Lib.hid (H62.out.step (al _ (.cells #[.int .i64 0, .int .i64 0, .int .i64 0, .int .i64 0, .int .i64 0, .slice uca 0 ucc] 27)))
  clear H62
  have H73 := Lib.hid (H63.out.step (al _ (.cells #[.int .i64 0, .int .i64 0, .int .i64 0, .int .i64 0, .int .i64 0, .slice uca 0 ucc] 27)))
  clear H63
  have H74 := Lib.hid (H64.out.step (al _ (.cells #[.int .i64 0, .int .i64 0, .int .i64 0, .int .i64 0, .int .i64 0, .slice uca 0 ucc] 27)))
  clear H64
  have H75 := Lib.hid (H65.out.step (al _ (.cells #[.int .i64 0, .int .i64 0, .int .i64 0, .int .i64 0, .int .i64 0, .slice uca 0 ucc] 27)))
  clear H65
  have H76 := Lib.hid (keep2 (al _ (.cells #[.int .i64 0, .int .i64 0, .int .i64 0, .int .i64 0, .int .i64 0, .slice uca 0 ucc] 27)) H66.out)
  clear H66
  have xm0 := H71.out.c 0 rfl
  have xm1 := H71.out.c 1 rfl
  have xm2 := H71.out.c 2 rfl
  have xm3 := H71.out.c 3 rfl
  have xm4 := H71.out.c 4 rfl
  have zm := H71.out.2.2
  have xs40 := H74.out.c 0 rfl
  have xs41 := H74.out.c 1 rfl
  have xs42 := H74.out.c 2 rfl
  have xs43 := H74.out.c 3 rfl
  have xs44 := H74.out.c 4 rfl
  have xs45 := H74.out.c 5 rfl
  have zs4 := H74.out.2.2
  have yp0 : (u5.alloc (.cells #[.int .i64 0, .int .i64 0, .int .i64 0, .int .i64 0, .int .i64 0, .slice uca 0 ucc] 27)).cell? ⟨b, off, none⟩ = some (.int .i64 0) := H69.out.c0
  have yp1 : (u5.alloc (.cells #[.int .i64 0, .int .i64 0, .int .i64 0, .int .i64 0, .int .i64 0, .slice uca 0 ucc] 27)).cell? ⟨b, off + 1, none⟩ = some (.slice (q 0) 2 (r 0)) := H69.out.c1
  have yp2 : (u5.alloc (.cells #[.int .i64 0, .int .i64 0, .int .i64 0, .int .i64 0, .int .i64 0, .slice uca 0 ucc] 27)).cell? ⟨b, off + 2, none⟩ = some (.slice (q 1) 2 (r 1)) := H69.out.c2
  have yp3 : (u5.alloc (.cells #[.int .i64 0, .int .i64 0, .int .i64 0, .int .i64 0, .int .i64 0, .slice uca 0 ucc] 27)).cell? ⟨b, off + 3, none⟩ = some (.int .i64 1) := H69.out.c3
  have yp4 : (u5.alloc (.cells #[.int .i64 0, .int .i64 0, .int .i64 0, .int .i64 0, .int .i64 0, .slice uca 0 ucc] 27)).cell? ⟨b, off + 3 + 1, none⟩ = some (.slice (q 2) 2 (r 2)) := H69.out.c4
  have yp5 : (u5.alloc (.cells #[.int .i64 0, .int .i64 0, .int .i64 0, .int .i64 0, .int .i64 0, .slice uca 0 ucc] 27)).cell? ⟨b, off + 3 + 2, none⟩ = some (.slice (q 3) 2 (r 3)) := H69.out.c5
  have yp6 : (u5.alloc (.cells #[.int .i64 0, .int .i64 0, .int .i64 0, .int .i64 0, .int .i64 0, .slice uca 0 ucc] 27)).cell? ⟨b, off + 6, none⟩ = some (.int .i64 2) := H69.out.c6
  have yp7 : (u5.alloc (.cells #[.int .i64 0, .int .i64 0, .int .i64 0, .int .i64 0, .int .i64 0, .slice uca 0 ucc] 27)).cell? ⟨b, off + 6 + 1, none⟩ = some (.slice (q 4) 1 (r 4)) := H69.out.c7
  have yp8 : (u5.alloc (.cells #[.int .i64 0, .int .i64 0, .int .i64 0, .int .i64 0, .int .i64 0, .slice uca 0 ucc] 27)).cell? ⟨b, off + 6 + 2, none⟩ = some (.slice (some ⟨pb, po, none⟩) 2 (r 5)) := (by rw [← HQ5.out]; exact H69.out.c8)
  have ypz : b < (u5.alloc (.cells #[.int .i64 0, .int .i64 0, .int .i64 0, .int .i64 0, .int .i64 0, .slice uca 0 ucc] 27)).heap.size := H69.out.lt
  go_upto_region 7 with fail
  clear xm0 xm1 xm2 xm3 xm4 zm xs40 xs41 xs42 xs43 xs44 xs45 zs4 yp0 yp1 yp2 yp3 yp4 yp5 yp6 yp7 yp8 ypz
  obtain ⟨U7, hU7⟩ : ∃ z9, (u5.alloc (.cells #[.int .i64 0, .int .i64 0, .int .i64 0, .int .i64 0, .int .i64 0, .slice uca 0 ucc] 27)) = z9 := ⟨_, rfl⟩
  rw [hU7] at H68 H69 H70 H71 H72 H73 H74 H75 H67 H76 ⊢
  clear hU7
  obtain ⟨lit, hlit⟩ : ∃ lit : (Nat → Value) → Act, lit = fun vs => { tmps := List.toArray (Value.bool false :: Value.pointer (some { block := u1.heap.size, off := 0 }) :: Value.slice (some { block := b, off := off }) 3 cc :: Value.int IntKind.i64 0 :: Value.pointer (some { block := u3.heap.size, off := 0 }) :: Value.int IntKind.i64 0 :: Value.pointer (some { block := u4.heap.size, off := 0 }) :: Value.int IntKind.i64 31 :: Value.pointer (some { block := u5.heap.size, off := 0 }) :: Value.int IntKind.i64 15 :: vs 8 :: vs 10 :: undef :: undef :: undef :: undef :: undef :: undef :: undef :: undef :: undef :: undef :: undef :: Value.tuple #[Value.agg #[Value.int IntKind.i64 4, Value.int IntKind.i64 3, Value.int IntKind.i64 2, Value.int IntKind.i64 49659217, Value.int IntKind.i64 1453941846], Value.slice (some { block := b, off := off }) 3 cc, Value.int IntKind.i64 0] :: Value.slice (some { block := w.heap.size, off := 0 }) 5 5 :: Value.tuple #[Value.agg #[Value.int IntKind.i64 4, Value.int IntKind.i64 3, Value.int IntKind.i64 2, Value.int IntKind.i64 49659217, Value.int IntKind.i64 1453941846], Value.slice (some { block := b, off := off }) 3 cc, Value.int IntKind.i64 0] :: Value.agg #[Value.int IntKind.i64 4, Value.int IntKind.i64 3, Value.int IntKind.i64 2, Value.int IntKind.i64 49659217, Value.int IntKind.i64 1453941846] :: Value.slice (some { block := b, off := off }) 3 cc :: Value.int IntKind.i64 0 :: Value.int IntKind.i64 0 :: Value.bool false :: Value.bool false :: Value.pointer (some { block := u1.heap.size, off := 1 }) :: Value.int IntKind.i64 3 :: Value.bool false :: Value.bool false :: Value.bool false :: Value.slice (some { block := b, off := off }) 3 cc :: Value.int IntKind.i64 3 :: Value.bool false :: Value.bool false :: Value.bool false :: Value.slice (some { block := b, off := off }) 3 cc :: Value.pointer (some { block := b, off := off + 6 }) :: Value.pointer (some { block := b, off := off + 6 + 1 }) :: Value.slice (q 4) 1 (r 4) :: Value.slice (some { block := u1.heap.size + 1, off := 0 }) 1 1 :: Value.bool true :: Value.bool false :: Value.bool false :: Value.bool false :: Value.slice (some { block := b, off := off }) 3 cc :: Value.pointer (some { block := b, off := off + 6 }) :: Value.pointer (some { block := b, off := off + 6 + 2 }) :: Value.slice (some { block := pb, off := po }) 2 (r 5) :: Value.int IntKind.i64 2 :: Value.bool false :: Value.bool false :: Value.bool false :: Value.slice (some { block := b, off := off }) 3 cc :: Value.pointer (some { block := b, off := off + 6 }) :: Value.pointer (some { block := b, off := off + 6 + 2 }) :: Value.slice (some { block := pb, off := po }) 2 (r 5) :: Value.pointer (some { block := pb, off := po }) :: Value.int IntKind.i64 (-1) :: Value.bool false :: Value.bool false :: Value.tuple #[Value.agg #[Value.int IntKind.i64 4, Value.int IntKind.i64 3, Value.int IntKind.i64 2, Value.int IntKind.i64 49659217, Value.int IntKind.i64 1453941846, Value.slice sa 3 sc], Value.int IntKind.i64 0] :: Value.agg #[Value.int IntKind.i64 4, Value.int IntKind.i64 3, Value.int IntKind.i64 2, Value.int IntKind.i64 49659217, Value.int IntKind.i64 1453941846] :: Value.tuple #[Value.agg #[Value.int IntKind.i64 4, Value.int IntKind.i64 3, Value.int IntKind.i64 2, Value.int IntKind.i64 49659217, Value.int IntKind.i64 1453941846, Value.slice sa 3 sc], Value.int IntKind.i64 0] :: Value.agg #[Value.int IntKind.i64 4, Value.int IntKind.i64 3, Value.int IntKind.i64 2, Value.int IntKind.i64 49659217, Value.int IntKind.i64 1453941846, Value.slice sa 3 sc] :: Value.int IntKind.i64 0 :: Value.tuple #[Value.agg #[Value.int IntKind.i64 0, Value.int IntKind.i64 0, Value.int IntKind.i64 0, Value.int IntKind.i64 0, Value.int IntKind.i64 0, Value.slice uba 0 ubc], Value.int IntKind.i64 31] :: Value.agg #[Value.int IntKind.i64 4, Value.int IntKind.i64 3, Value.int IntKind.i64 2, Value.int IntKind.i64 49659217, Value.int IntKind.i64 1453941846] :: Value.tuple #[Value.agg #[Value.int IntKind.i64 0, Value.int IntKind.i64 0, Value.int IntKind.i64 0, Value.int IntKind.i64 0, Value.int IntKind.i64 0, Value.slice uba 0 ubc], Value.int IntKind.i64 31] :: Value.agg #[Value.int IntKind.i64 0, Value.int IntKind.i64 0, Value.int IntKind.i64 0, Value.int IntKind.i64 0, Value.int IntKind.i64 0, Value.slice uba 0 ubc] :: Value.int IntKind.i64 31 :: Value.tuple #[Value.agg #[Value.int IntKind.i64 0, Value.int IntKind.i64 0, Value.int IntKind.i64 0, Value.int IntKind.i64 0, Value.int IntKind.i64 0, Value.slice uca 0 ucc], Value.int IntKind.i64 15] :: Value.agg #[Value.int IntKind.i64 4, Value.int IntKind.i64 3, Value.int IntKind.i64 2, Value.int IntKind.i64 49659217, Value.int IntKind.i64 1453941846] :: Value.tuple #[Value.agg #[Value.int IntKind.i64 0, Value.int IntKind.i64 0, Value.int IntKind.i64 0, Value.int IntKind.i64 0, Value.int IntKind.i64 0, Value.slice uca 0 ucc], Value.int IntKind.i64 15] :: Value.agg #[Value.int IntKind.i64 0, Value.int IntKind.i64 0, Value.int IntKind.i64 0, Value.int IntKind.i64 0, Value.int IntKind.i64 0, Value.slice uca 0 ucc] :: Value.int IntKind.i64 15 :: vs 5 :: vs 0 :: vs 1 :: vs 2 :: vs 3 :: vs 4 :: vs 6 :: vs 7 :: undef :: undef :: undef :: undef :: undef :: undef :: undef :: undef :: undef :: undef :: undef :: undef :: undef :: undef :: undef :: undef :: undef :: undef :: undef :: undef :: undef :: undef :: undef :: undef :: undef :: undef :: undef :: undef :: undef :: undef :: undef :: undef :: undef :: undef :: undef :: undef :: undef :: undef :: undef :: undef :: undef :: undef :: undef :: undef :: undef :: undef :: undef :: undef :: undef :: undef :: undef :: undef :: undef :: undef :: undef :: undef :: undef :: undef :: undef :: undef :: undef :: undef :: undef :: undef :: undef :: undef :: undef :: undef :: undef :: undef :: undef :: undef :: undef :: undef :: undef :: undef :: undef :: undef :: undef :: undef :: undef :: undef :: undef :: undef :: undef :: undef :: undef :: undef :: undef :: undef :: undef :: undef :: undef :: undef :: undef :: undef :: undef :: undef :: undef :: undef :: undef :: undef :: undef :: []), defers := [] } := ⟨_, rfl⟩
  have HLIT := Lib.hid hlit
  clear hlit
  obtain ⟨val, hval⟩ : ∃ val : List Value, val = [.agg #[.int .i64 4, .int .i64 3, .int .i64 2, .int .i64 49659217, .int .i64 1453941846, .slice sa 3 sc], .slice (some ⟨b, off, none⟩) 3 cc, .pointer (some ⟨b, off + 6, none⟩), .agg #[.int .i64 2, .slice (q 4) 1 (r 4), .slice (some ⟨pb, po, none⟩) 2 (r 5)], undef, undef, undef, .int .i64 0, undef, undef, .int .i64 0] := ⟨_, rfl⟩
  have E0 := Lib.hid (show val.getD 0 undef = .agg #[.int .i64 4, .int .i64 3, .int .i64 2, .int .i64 49659217, .int .i64 1453941846, .slice sa 3 sc] by rw [hval]; rfl)
  have E1 := Lib.hid (show val.getD 1 undef = .slice (some ⟨b, off, none⟩) 3 cc by rw [hval]; rfl)
  have E2 := Lib.hid (show val.getD 2 undef = .pointer (some ⟨b, off + 6, none⟩) by rw [hval]; rfl)
  have E3 := Lib.hid (show val.getD 3 undef = .agg #[.int .i64 2, .slice (q 4) 1 (r 4), .slice (some ⟨pb, po, none⟩) 2 (r 5)] by rw [hval]; rfl)
  have E7 := Lib.hid (show val.getD 7 undef = .int .i64 0 by rw [hval]; rfl)
  have E10 := Lib.hid (show val.getD 10 undef = .int .i64 0 by rw [hval]; rfl)
  clear hval
  obtain ⟨G, hG0⟩ : ∃ G : Bool → Nat → Value → World → Prop, G = (fun bq iq vq ww => (iq = 4 → QoT 0 ⟨4, 3, 2, 49659217, 1453941846⟩ [[], [], [5]] 3 0 bq vq ww) ∧ (iq = 5 → QoT 0 ⟨4, 3, 2, 49659217, 1453941846⟩ [[], [], [5]] 3 0 bq vq ww) ∧ (iq = 6 → QoA 0 ⟨4, 3, 2, 49659217, 1453941846⟩ [[], [], [5]] 3 bq vq ww) ∧ (iq = 8 → QoK U7.heap.size ⟨4, 3, 2, 49659217, 1453941846⟩ [[], [], [5]] 3 bq vq ww) ∧ (iq ≠ 4 → iq ≠ 5 → iq ≠ 6 → iq ≠ 8 → iq ≠ 9 → vq = val.getD iq undef)) := ⟨_, rfl⟩
  have HG := Lib.hid hG0
  clear hG0
  refine region_inv (NS lit 9 (fun p q => (p == 9 && q == 0) || (p == 9 && q == 3) || (p == 9 && q == 4) || (p == 9 && q == 5) || (p == 9 && q == 6) || (p == 9 && q == 8) || (p == 9 && q == 1) || (p == 9 && q == 2)) G fun bq wv => (bq = false → Below U7.heap.size U7 wv) ∧ (bq = true → Below U7.heap.size U7 wv)) (by kernel_rfl) (by decide +kernel) ?_ ?_ ?_
  · exact NS.start (fun i => ([undef, undef, undef, undef, undef, undef, undef, undef, undef, undef, undef] : List Value).getD i undef) (by rw [HLIT.out]; rfl) ⟨fun _ => below_drew _ _, fun h => (by cases h)⟩
  · refine ⟨?_, ?_, ?_, ?_, ?_, ?_, ?_, ?_, ?_, ?_, ?_, trivial⟩
    · intro bf ac wv hfb haf hJ K' hK
      obtain ⟨vs, rfl, ja, hB, j4⟩ := hJ
      replace hK := Lib.hid hK
      rw [HG.out] at j4
      have hd : bf 9 = false := by
        cases h : bf 9
        · rfl
        · exact absurd ((ja 9 0 rfl h).symm.trans hfb) (by simp)
      have hM := Lib.hid (hB.1 hd)
      replace j4 := Lib.hid (And.intro ja j4)
      replace hB := Lib.hid hB
      clear ja haf
      have x0 := (H74.out.step hM.out).c 0 rfl
      have x1 := (H74.out.step hM.out).c 1 rfl
      have x2 := (H74.out.step hM.out).c 2 rfl
      have x3 := (H74.out.step hM.out).c 3 rfl
      have x4 := (H74.out.step hM.out).c 4 rfl
      have x5 := (H74.out.step hM.out).c 5 rfl
      have xz := (H74.out.step hM.out).2.2
      rw [HLIT.out]
      go_simp
      exact hK.out _ _ (NS.next (wv := wv) (vs := vs) 0 (by omega) (fun q h => absurd h (by simp)) (x := .agg #[.int .i64 4, .int .i64 3, .int .i64 2, .int .i64 49659217, .int .i64 1453941846, .slice sa 3 sc]) (by rw [HLIT.out]; rfl) (by rw [HG.out]; exact j4.out) hB.out (by rw [HG.out]; exact fun _ _ h => h) (by rw [HG.out]; exact ⟨fun h => absurd h (by decide), fun h => absurd h (by decide), fun h => absurd h (by decide), fun h => absurd h (by decide), fun _ _ _ _ _ => E0.out.symm⟩))
    · intro bf ac wv hfb haf hJ K' hK
      obtain ⟨vs, rfl, ja, hB, j4⟩ := hJ
      replace hK := Lib.hid hK
      rw [HG.out] at j4
      replace j4 := Lib.hid (And.intro ja j4)
      replace hB := Lib.hid hB
      clear ja haf
      rw [HLIT.out]
      go_simp
      exact hK.out _ _ (NS.next (wv := wv) (vs := vs) 1 (by omega) (fun q h => absurd h (by simp)) (x := .slice (some ⟨b, off, none⟩) 3 cc) (by rw [HLIT.out]; rfl) (by rw [HG.out]; exact j4.out) hB.out (by rw [HG.out]; exact fun _ _ h => h) (by rw [HG.out]; exact ⟨fun h => absurd h (by decide), fun h => absurd h (by decide), fun h => absurd h (by decide), fun h => absurd h (by decide), fun _ _ _ _ _ => E1.out.symm⟩))
    · intro bf ac wv hfb haf hJ K' hK
      obtain ⟨vs, rfl, ja, hB, j4⟩ := hJ
      replace hK := Lib.hid hK
      simp [Region.binds] at haf
      rw [HG.out] at j4
      have e1 := ((j4 1 (by simp [haf])).2.2.2.2 (by decide) (by decide) (by decide) (by decide) (by decide)).trans E1.out
      replace j4 := Lib.hid (And.intro ja j4)
      replace hB := Lib.hid hB
      clear ja haf
      rw [HLIT.out]
      go_simp
      exact hK.out _ _ (NS.next (wv := wv) (vs := vs) 2 (by omega) (fun q h => absurd h (by simp)) (x := .pointer (some ⟨b, off + 6, none⟩)) (by rw [HLIT.out]; simp only [upv, e1, Nat.reduceBEq, cond_true, cond_false]) (by rw [HG.out]; exact j4.out) hB.out (by rw [HG.out]; exact fun _ _ h => h) (by rw [HG.out]; exact ⟨fun h => absurd h (by decide), fun h => absurd h (by decide), fun h => absurd h (by decide), fun h => absurd h (by decide), fun _ _ _ _ _ => E2.out.symm⟩))
    · intro bf ac wv hfb haf hJ K' hK
      obtain ⟨vs, rfl, ja, hB, j4⟩ := hJ
      replace hK := Lib.hid hK
      simp [Region.binds] at haf
      rw [HG.out] at j4
      have e2 := ((j4 2 (by simp [haf])).2.2.2.2 (by decide) (by decide) (by decide) (by decide) (by decide)).trans E2.out
      have hd : bf 9 = false := by
        cases h : bf 9
        · rfl
        · exact absurd ((ja 9 3 rfl h).symm.trans hfb) (by simp)
      have hM := Lib.hid (hB.1 hd)
      replace j4 := Lib.hid (And.intro ja j4)
      replace hB := Lib.hid hB
      clear ja haf
      have hPP := H69.out.step hM.out
      have yp6 := hPP.c6
      have yp7 : wv.cell? ⟨b, off + 6 + 1, none⟩ = some (.slice (q 4) 1 (r 4)) := hPP.c7
      have yp8 : wv.cell? ⟨b, off + 6 + 2, none⟩ = some (.slice (some ⟨pb, po, none⟩) 2 (r 5)) := by rw [← HQ5.out]; exact hPP.c8
      have ypz := hPP.lt
      clear hPP
      rw [HLIT.out]
      go_simp
      exact hK.out _ _ (NS.next (wv := wv) (vs := vs) 3 (by omega) (fun q h => absurd h (by simp)) (x := .agg #[.int .i64 2, .slice (q 4) 1 (r 4), .slice (some ⟨pb, po, none⟩) 2 (r 5)]) (by rw [HLIT.out]; simp only [upv, e2, Nat.reduceBEq, cond_true, cond_false]) (by rw [HG.out]; exact j4.out) hB.out (by rw [HG.out]; exact fun _ _ h => h) (by rw [HG.out]; exact ⟨fun h => absurd h (by decide), fun h => absurd h (by decide), fun h => absurd h (by decide), fun h => absurd h (by decide), fun _ _ _ _ _ => E3.out.symm⟩))
    · intro bf ac wv hfb haf hJ K' hK
      obtain ⟨vs, rfl, ja, hB, j4⟩ := hJ
      replace hK := Lib.hid hK
      simp [Region.binds] at haf
      rw [HG.out] at j4
      have e0 := ((j4 0 (by simp [haf])).2.2.2.2 (by decide) (by decide) (by decide) (by decide) (by decide)).trans E0.out
      have e3 := ((j4 3 (by simp [haf])).2.2.2.2 (by decide) (by decide) (by decide) (by decide) (by decide)).trans E3.out
      have hd : bf 9 = false := by
        cases h : bf 9
        · rfl
        · exact absurd ((ja 9 4 rfl h).symm.trans hfb) (by simp)
      have hM := Lib.hid (hB.1 hd)
      replace j4 := Lib.hid (And.intro ja j4)
      replace hB := Lib.hid hB
      clear ja haf
      rw [HLIT.out]
      go_simp
      go_at_call 15
      refine (add_any ⟨4, 3, 2, 49659217, 1453941846⟩ 2 _ [[], [], []] _ [5] _ [-1, 1902135710] wv (H73.out.step hM.out) ((H69.out.step hM.out).d2) (by rw [← HQ5.out]; exact (H69.out.step hM.out).p2) (by simp) (by simp) (by simp) hd_ad1 hd_al1).mono ?_
      rintro e w4 ⟨u4, nnr, rfl, -, hr, b4⟩
      obtain ⟨uar, ucr, rfl⟩ : ∃ (a : Option Addr) (c : Nat), u4 = .slice a 3 c := by
        obtain ⟨a, c, e, -⟩ := hr
        exact ⟨a, c, e⟩
      exact hK.out _ _ (NS.next (wv := wv) (vs := vs) 4 (by omega) (fun q h => absurd h (by simp)) (x := (.tuple #[.agg #[.int .i64 4, .int .i64 3, .int .i64 2, .int .i64 49659217, .int .i64 1453941846, .slice uar 3 ucr], .int .i64 0])) (by rw [HLIT.out]; simp only [upv, e0, e3, Nat.reduceBEq, cond_true, cond_false]) (by rw [HG.out]; exact j4.out) ⟨fun _ => keep2 b4 hM.out, fun e => absurd (e.symm.trans hd) (by simp)⟩ (by rw [HG.out]; exact fun k hbk h => ⟨fun q => (h.1 q).step b4, fun q => (h.2.1 q).step b4, fun q => (h.2.2.1 q).step b4, fun q => (h.2.2.2.1 q).step b4, h.2.2.2.2⟩) (by rw [HG.out]; exact ⟨fun _ => ⟨uar, ucr, nnr, rfl, fun _ => hr⟩, fun h => absurd h (by decide), fun h => absurd h (by decide), fun h => absurd h (by decide), fun h4 => absurd rfl h4⟩))
    · intro bf ac wv hfb haf hJ K' hK
      obtain ⟨vs, rfl, ja, hB, j4⟩ := hJ
      replace hK := Lib.hid hK
      simp [Region.binds] at haf
      rw [HG.out] at j4
      have e4 := (j4 4 (by simp [haf])).1 rfl
      replace j4 := Lib.hid (And.intro ja j4)
      replace hB := Lib.hid hB
      clear ja haf
      obtain ⟨uar, ucr, nnr, e4, hr⟩ := e4
      rw [HLIT.out]
      go_simp
      exact hK.out _ _ (NS.next (wv := wv) (vs := vs) 5 (by omega) (fun q h => absurd h (by simp)) (x := (.tuple #[.agg #[.int .i64 4, .int .i64 3, .int .i64 2, .int .i64 49659217, .int .i64 1453941846, .slice uar 3 ucr], .int .i64 0])) (by rw [HLIT.out]; simp only [upv, e4, Nat.reduceBEq, cond_true, cond_false]) (by rw [HG.out]; exact j4.out) hB.out (by rw [HG.out]; exact fun _ _ h => h) (by rw [HG.out]; exact ⟨fun h => absurd h (by decide), fun _ => ⟨uar, ucr, nnr, rfl, hr⟩, fun h => absurd h (by decide), fun h => absurd h (by decide), fun h4 h5 => absurd rfl h5⟩))
    · intro bf ac wv hfb haf hJ K' hK
      obtain ⟨vs, rfl, ja, hB, j4⟩ := hJ
      replace hK := Lib.hid hK
      simp [Region.binds] at haf
      rw [HG.out] at j4
      have e5 := (j4 5 (by simp [haf])).2.1 rfl
      replace j4 := Lib.hid (And.intro ja j4)
      replace hB := Lib.hid hB
      clear ja haf
      obtain ⟨uar, ucr, nnr, e5, hr⟩ := e5
      rw [HLIT.out]
      go_simp
      exact hK.out _ _ (NS.next (wv := wv) (vs := vs) 6 (by omega) (fun q h => absurd h (by simp)) (x := (.agg #[.int .i64 4, .int .i64 3, .int .i64 2, .int .i64 49659217, .int .i64 1453941846, .slice uar 3 ucr])) (by rw [HLIT.out]; simp only [upv, e5, Nat.reduceBEq, cond_true, cond_false]) (by rw [HG.out]; exact j4.out) hB.out (by rw [HG.out]; exact fun _ _ h => h) (by rw [HG.out]; exact ⟨fun h => absurd h (by decide), fun h => absurd h (by decide), fun _ => ⟨uar, ucr, nnr, rfl, hr⟩, fun h => absurd h (by decide), fun h4 h5 h6 => absurd rfl h6⟩))
    · intro bf ac wv hfb haf hJ K' hK
      obtain ⟨vs, rfl, ja, hB, j4⟩ := hJ
      replace hK := Lib.hid hK
      simp [Region.binds] at haf
      rw [HG.out] at j4
      have e5 := (j4 5 (by simp [haf])).2.1 rfl
      replace j4 := Lib.hid (And.intro ja j4)
      replace hB := Lib.hid hB
      clear ja haf
      obtain ⟨uar, ucr, nnr, e5, hr⟩ := e5
      rw [HLIT.out]
      go_simp
      exact hK.out _ _ (NS.next (wv := wv) (vs := vs) 7 (by omega) (fun q h => absurd h (by simp)) (x := .int .i64 0) (by rw [HLIT.out]; simp only [upv, e5, Nat.reduceBEq, cond_true, cond_false]) (by rw [HG.out]; exact j4.out) hB.out (by rw [HG.out]; exact fun _ _ h => h) (by rw [HG.out]; exact ⟨fun h => absurd h (by decide), fun h => absurd h (by decide), fun h => absurd h (by decide), fun h => absurd h (by decide), fun _ _ _ _ _ => E7.out.symm⟩))
    · intro bf ac wv hfb haf hJ K' hK
      obtain ⟨vs, rfl, ja, hB, j4⟩ := hJ
      replace hK := Lib.hid hK
      rw [HG.out] at j4
      have hd : bf 9 = false := by
        cases h : bf 9
        · rfl
        · exact absurd ((ja 9 8 rfl h).symm.trans hfb) (by simp)
      have hM := Lib.hid (hB.1 hd)
      replace j4 := Lib.hid (And.intro ja j4)
      replace hB := Lib.hid hB
      clear ja haf
      rw [HLIT.out]
      go_simp
      have b4 := al wv (.cells ZB6 27)
      exact hK.out _ _ (NS.next (wv := wv) (vs := vs) 8 (by omega) (fun q h => absurd h (by simp)) (x := (.pointer (some ⟨wv.heap.size, 0, none⟩))) (by rw [HLIT.out]; rfl) (by rw [HG.out]; exact j4.out) ⟨fun _ => keep2 b4 hM.out, fun e => absurd (e.symm.trans hd) (by simp)⟩ (by rw [HG.out]; exact fun k hbk h => ⟨fun q => (h.1 q).step b4, fun q => (h.2.1 q).step b4, fun q => (h.2.2.1 q).step b4, fun q => (h.2.2.2.1 q).step b4, h.2.2.2.2⟩) (by rw [HG.out]; exact ⟨fun h => absurd h (by decide), fun h => absurd h (by decide), fun h => absurd h (by decide), fun _ => ⟨wv.heap.size, rfl, hM.out.size, fun _ => BoxN.new wv ZB6 27, fun e => absurd (e.symm.trans hd) (by simp)⟩, fun h4 h5 h6 h8 => absurd rfl h8⟩))
    · intro bf ac wv hfb haf hJ K' hK
      obtain ⟨vs, rfl, ja, hB, j4⟩ := hJ
      replace hK := Lib.hid hK
      simp [Region.binds] at haf
      rw [HG.out] at j4
      have e6 := (j4 6 (by simp [haf])).2.2.1 rfl
      have e8 := (j4 8 (by simp [haf])).2.2.2.1 rfl
      rw [hfb] at j4 hB
      try rw [hfb] at e6
      try rw [hfb] at e8
      have HA := Lib.hid (show ∀ q, (fun p q => (p == 9 && q == 0) || (p == 9 && q == 3) || (p == 9 && q == 4) || (p == 9 && q == 5) || (p == 9 && q == 6) || (p == 9 && q == 8) || (p == 9 && q == 1) || (p == 9 && q == 2)) 9 q = true → bf q = true from fun q hi => by
        obtain rfl | rfl | rfl | rfl | rfl | rfl | rfl | rfl : q = 0 ∨ q = 3 ∨ q = 4 ∨ q = 5 ∨ q = 6 ∨ q = 8 ∨ q = 1 ∨ q = 2 := by simpa [or_assoc] using hi
        all_goals simp [haf])
      have hM := Lib.hid (hB.1 rfl)
      replace j4 := Lib.hid j4
      have HE := Lib.hid (And.intro ja HA.out)
      clear ja haf hB HA
      obtain ⟨k, e8, hk, hz, -⟩ := e8
      replace hz := hz rfl
      obtain ⟨uar, ucr, nnr, e6, hr⟩ := e6
      replace hr := Lib.hid (hr rfl)
      replace hk := Lib.hid hk
      have HZ := Lib.hid hz
      have HZC := Lib.hid (cs_of_box hz)
      have x0 := HZC.out.c 0 rfl
      have y0 := HZC.out.f 0 (by simp [ZB6])
      have x1 := HZC.out.c 1 rfl
      have y1 := HZC.out.f 1 (by simp [ZB6])
      have x2 := HZC.out.c 2 rfl
      have y2 := HZC.out.f 2 (by simp [ZB6])
      have x3 := HZC.out.c 3 rfl
      have y3 := HZC.out.f 3 (by simp [ZB6])
      have x4 := HZC.out.c 4 rfl
      have y4 := HZC.out.f 4 (by simp [ZB6])
      have x5 := HZC.out.c 5 rfl
      have y5 := HZC.out.f 5 (by simp [ZB6])
      have xz := HZC.out.2.2
      clear hz
      rw [HLIT.out]
      go_simp
      have p1 : BxO 0 ⟨4, 3, 2, 49659217, 1453941846⟩ [[], [], [5]] 3 k (putS wv k ⟨4, 3, 2, 49659217, 1453941846⟩ (.slice uar 3 ucr)) := ⟨uar, ucr, nnr, box_putS HZ.out rfl ⟨4, 3, 2, 49659217, 1453941846⟩ _, hr.out.putS (Nat.zero_le _) (tyB_box HZ.out) ⟨4, 3, 2, 49659217, 1453941846⟩ _⟩
      have p3 : Below U7.heap.size wv (putS wv k ⟨4, 3, 2, 49659217, 1453941846⟩ (.slice uar 3 ucr)) := putS_below _ hk.out ⟨4, 3, 2, 49659217, 1453941846⟩ _
      exact hK.out _ _ (NS.put (vs := vs) (w' := putS wv k ⟨4, 3, 2, 49659217, 1453941846⟩ (.slice uar 3 ucr)) (by rw [HLIT.out]; simp only [e8, e6]) HE.out ⟨fun e => (by cases e), fun _ => hM.out.trans p3⟩ (fun j hj hb => by
        rw [HG.out]
        have q := j4.out j hb
        exact ⟨fun h => (q.1 h).put _, fun h => (q.2.1 h).put _, fun h => (q.2.2.1 h).put _, fun h => by
          subst h
          exact ⟨k, e8, hk.out, fun e => (by cases e), fun _ => p1⟩, q.2.2.2.2⟩) (fun v => by rw [HG.out]; exact ⟨fun h => absurd h (by decide), fun h => absurd h (by decide), fun h => absurd h (by decide), fun h => absurd h (by decide), fun h4 h5 h6 h8 h9 => absurd rfl h9⟩))
    · intro bf ac wv hfb haf hJ K' hK
      obtain ⟨vs, rfl, ja, hB, j4⟩ := hJ
      replace hK := Lib.hid hK
      simp [Region.binds] at haf
      rw [HG.out] at j4
      have e7 := ((j4 7 (by simp [haf])).2.2.2.2 (by decide) (by decide) (by decide) (by decide) (by decide)).trans E7.out
      replace j4 := Lib.hid (And.intro ja j4)
      replace hB := Lib.hid hB
      clear ja haf
      rw [HLIT.out]
      go_simp
      exact hK.out _ _ (NS.next (wv := wv) (vs := vs) 10 (by omega) (fun q h => absurd h (by simp)) (x := .int .i64 0) (by rw [HLIT.out]; simp only [upv, e7, Nat.reduceBEq, cond_true, cond_false]) (by rw [HG.out]; exact j4.out) hB.out (by rw [HG.out]; exact fun _ _ h => h) (by rw [HG.out]; exact ⟨fun h => absurd h (by decide), fun h => absurd h (by decide), fun h => absurd h (by decide), fun h => absurd h (by decide), fun _ _ _ _ _ => E10.out.symm⟩))
  · intro bf ac wv hall hJ
    obtain ⟨vs, rfl, -, hB, j4⟩ := hJ
    rw [HG.out] at j4
    rw [hall 9 (by decide)] at hB j4
    have hM := Lib.hid (hB.2 rfl)
    clear hB
    obtain ⟨k0, e8, hk0, -, hbx⟩ := (j4 8 (hall 8 (by decide))).2.2.2.1 rfl
    replace hbx := hbx rfl
    have e10 := ((j4 10 (hall 10 (by decide))).2.2.2.2 (by decide) (by decide) (by decide) (by decide) (by decide)).trans E10.out
    have HK0 := Lib.hid hk0
    have HBX := Lib.hid hbx
    have HB7 := Lib.hid hM.out
    clear hM j4 hall hk0 hbx
    rw [HLIT.out]
    dsimp only
    rw [e8, e10]
    clear e8 e10 HLIT HG
    generalize vs = us8
    obtain ⟨U8, hU8⟩ : ∃ z9, wv = z9 := ⟨_, rfl⟩
    rw [hU8] at HBX HB7 ⊢
    clear hU8
    have H77 := Lib.hid (H68.out.step HB7.out)
    have H78 := Lib.hid (H69.out.step HB7.out)
    have H79 := Lib.hid (H70.out.step HB7.out)
    have H80 := Lib.hid (H71.out.step HB7.out)
    have H81 := Lib.hid (H72.out.step HB7.out)
    have H82 := Lib.hid (H73.out.step HB7.out)
    have H83 := Lib.hid (H74.out.step HB7.out)
    have H84 := Lib.hid (H75.out.step HB7.out)
    have H85 := Lib.hid (H67.out.step HB7.out)
    have H86 := Lib.hid (keep2 HB7.out H76.out)
    obtain ⟨ra8, rc8, nr8, hbo8, how8⟩ := HBX.out
    have H87 := Lib.hid (hbo8)
    have H88 := Lib.hid (cs_of_box hbo8)
    have H89 := Lib.hid (how8)
    clear hbo8 how8 HBX
    have xk0 := H88.out.c 0 rfl
    have xk1 := H88.out.c 1 rfl
    have xk2 := H88.out.c 2 rfl
    have xk3 := H88.out.c 3 rfl
    have xk4 := H88.out.c 4 rfl
    have xk5 := H88.out.c 5 rfl
    have zk := H88.out.2.2
    have yp0 : U8.cell? ⟨b, off, none⟩ = some (.int .i64 0) := H78.out.c0
    have yp1 : U8.cell? ⟨b, off + 1, none⟩ = some (.slice (q 0) 2 (r 0)) := H78.out.c1
    have yp2 : U8.cell? ⟨b, off + 2, none⟩ = some (.slice (q 1) 2 (r 1)) := H78.out.c2
    have yp3 : U8.cell? ⟨b, off + 3, none⟩ = some (.int .i64 1) := H78.out.c3
    have yp4 : U8.cell? ⟨b, off + 3 + 1, none⟩ = some (.slice (q 2) 2 (r 2)) := H78.out.c4
    have yp5 : U8.cell? ⟨b, off + 3 + 2, none⟩ = some (.slice (q 3) 2 (r 3)) := H78.out.c5
    have yp6 : U8.cell? ⟨b, off + 6, none⟩ = some (.int .i64 2) := H78.out.c6
    have yp7 : U8.cell? ⟨b, off + 6 + 1, none⟩ = some (.slice (q 4) 1 (r 4)) := H78.out.c7
    have yp8 : U8.cell? ⟨b, off + 6 + 2, none⟩ = some (.slice (some ⟨pb, po, none⟩) 2 (r 5)) := (by rw [← HQ5.out]; exact H78.out.c8)
    have ypz : b < U8.heap.size := H78.out.lt
    go_upto_region 8 with fail
    clear xk0 xk1 xk2 xk3 xk4 xk5 zk yp0 yp1 yp2 yp3 yp4 yp5 yp6 yp7 yp8 ypz
    obtain ⟨lit, hlit⟩ : ∃ lit : (Nat → Value) → Act, lit = fun vs => { tmps := List.toArray (Value.bool false :: Value.pointer (some { block := u1.heap.size, off := 0 }) :: Value.slice (some { block := b, off := off }) 3 cc :: Value.int IntKind.i64 0 :: Value.pointer (some { block := u3.heap.size, off := 0 }) :: Value.int IntKind.i64 0 :: Value.pointer (some { block := u4.heap.size, off := 0 }) :: Value.int IntKind.i64 31 :: Value.pointer (some { block := u5.heap.size, off := 0 }) :: Value.int IntKind.i64 15 :: Value.pointer (some { block := k0, off := 0 }) :: Value.int IntKind.i64 0 :: vs 9 :: undef :: undef :: undef :: undef :: undef :: undef :: undef :: undef :: undef :: undef :: Value.tuple #[Value.agg #[Value.int IntKind.i64 4, Value.int IntKind.i64 3, Value.int IntKind.i64 2, Value.int IntKind.i64 49659217, Value.int IntKind.i64 1453941846], Value.slice (some { block := b, off := off }) 3 cc, Value.int IntKind.i64 0] :: Value.slice (some { block := w.heap.size, off := 0 }) 5 5 :: Value.tuple #[Value.agg #[Value.int IntKind.i64 4, Value.int IntKind.i64 3, Value.int IntKind.i64 2, Value.int IntKind.i64 49659217, Value.int IntKind.i64 1453941846], Value.slice (some { block := b, off := off }) 3 cc, Value.int IntKind.i64 0] :: Value.agg #[Value.int IntKind.i64 4, Value.int IntKind.i64 3, Value.int IntKind.i64 2, Value.int IntKind.i64 49659217, Value.int IntKind.i64 1453941846] :: Value.slice (some { block := b, off := off }) 3 cc :: Value.int IntKind.i64 0 :: Value.int IntKind.i64 0 :: Value.bool false :: Value.bool false :: Value.pointer (some { block := u1.heap.size, off := 1 }) :: Value.int IntKind.i64 3 :: Value.bool false :: Value.bool false :: Value.bool false :: Value.slice (some { block := b, off := off }) 3 cc :: Value.int IntKind.i64 3 :: Value.bool false :: Value.bool false :: Value.bool false :: Value.slice (some { block := b, off := off }) 3 cc :: Value.pointer (some { block := b, off := off + 6 }) :: Value.pointer (some { block := b, off := off + 6 + 1 }) :: Value.slice (q 4) 1 (r 4) :: Value.slice (some { block := u1.heap.size + 1, off := 0 }) 1 1 :: Value.bool true :: Value.bool false :: Value.bool false :: Value.bool false :: Value.slice (some { block := b, off := off }) 3 cc :: Value.pointer (some { block := b, off := off + 6 }) :: Value.pointer (some { block := b, off := off + 6 + 2 }) :: Value.slice (some { block := pb, off := po }) 2 (r 5) :: Value.int IntKind.i64 2 :: Value.bool false :: Value.bool false :: Value.bool false :: Value.slice (some { block := b, off := off }) 3 cc :: Value.pointer (some { block := b, off := off + 6 }) :: Value.pointer (some { block := b, off := off + 6 + 2 }) :: Value.slice (some { block := pb, off := po }) 2 (r 5) :: Value.pointer (some { block := pb, off := po }) :: Value.int IntKind.i64 (-1) :: Value.bool false :: Value.bool false :: Value.tuple #[Value.agg #[Value.int IntKind.i64 4, Value.int IntKind.i64 3, Value.int IntKind.i64 2, Value.int IntKind.i64 49659217, Value.int IntKind.i64 1453941846, Value.slice sa 3 sc], Value.int IntKind.i64 0] :: Value.agg #[Value.int IntKind.i64 4, Value.int IntKind.i64 3, Value.int IntKind.i64 2, Value.int IntKind.i64 49659217, Value.int IntKind.i64 1453941846] :: Value.tuple #[Value.agg #[Value.int IntKind.i64 4, Value.int IntKind.i64 3, Value.int IntKind.i64 2, Value.int IntKind.i64 49659217, Value.int IntKind.i64 1453941846, Value.slice sa 3 sc], Value.int IntKind.i64 0] :: Value.agg #[Value.int IntKind.i64 4, Value.int IntKind.i64 3, Value.int IntKind.i64 2, Value.int IntKind.i64 49659217, Value.int IntKind.i64 1453941846, Value.slice sa 3 sc] :: Value.int IntKind.i64 0 :: Value.tuple #[Value.agg #[Value.int IntKind.i64 0, Value.int IntKind.i64 0, Value.int IntKind.i64 0, Value.int IntKind.i64 0, Value.int IntKind.i64 0, Value.slice uba 0 ubc], Value.int IntKind.i64 31] :: Value.agg #[Value.int IntKind.i64 4, Value.int IntKind.i64 3, Value.int IntKind.i64 2, Value.int IntKind.i64 49659217, Value.int IntKind.i64 1453941846] :: Value.tuple #[Value.agg #[Value.int IntKind.i64 0, Value.int IntKind.i64 0, Value.int IntKind.i64 0, Value.int IntKind.i64 0, Value.int IntKind.i64 0, Value.slice uba 0 ubc], Value.int IntKind.i64 31] :: Value.agg #[Value.int IntKind.i64 0, Value.int IntKind.i64 0, Value.int IntKind.i64 0, Value.int IntKind.i64 0, Value.int IntKind.i64 0, Value.slice uba 0 ubc] :: Value.int IntKind.i64 31 :: Value.tuple #[Value.agg #[Value.int IntKind.i64 0, Value.int IntKind.i64 0, Value.int IntKind.i64 0, Value.int IntKind.i64 0, Value.int IntKind.i64 0, Value.slice uca 0 ucc], Value.int IntKind.i64 15] :: Value.agg #[Value.int IntKind.i64 4, Value.int IntKind.i64 3, Value.int IntKind.i64 2, Value.int IntKind.i64 49659217, Value.int IntKind.i64 1453941846] :: Value.tuple #[Value.agg #[Value.int IntKind.i64 0, Value.int IntKind.i64 0, Value.int IntKind.i64 0, Value.int IntKind.i64 0, Value.int IntKind.i64 0, Value.slice uca 0 ucc], Value.int IntKind.i64 15] :: Value.agg #[Value.int IntKind.i64 0, Value.int IntKind.i64 0, Value.int IntKind.i64 0, Value.int IntKind.i64 0, Value.int IntKind.i64 0, Value.slice uca 0 ucc] :: Value.int IntKind.i64 15 :: us8 5 :: us8 0 :: us8 1 :: us8 2 :: us8 3 :: us8 4 :: us8 6 :: us8 7 :: vs 5 :: vs 0 :: vs 1 :: vs 2 :: vs 3 :: vs 4 :: vs 6 :: vs 7 :: undef :: undef :: undef :: undef :: undef :: undef :: undef :: undef :: undef :: undef :: undef :: undef :: undef :: undef :: undef :: undef :: undef :: undef :: undef :: undef :: undef :: undef :: undef :: undef :: undef :: undef :: undef :: undef :: undef :: undef :: undef :: undef :: undef :: undef :: undef :: undef :: undef :: undef :: undef :: undef :: undef :: undef :: undef :: undef :: undef :: undef :: undef :: undef :: undef :: undef :: undef :: undef :: undef :: undef :: undef :: undef :: undef :: undef :: undef :: undef :: undef :: undef :: undef :: undef :: undef :: undef :: undef :: undef :: undef :: undef :: undef :: undef :: undef :: undef :: undef :: undef :: undef :: undef :: undef :: undef :: undef :: undef :: undef :: undef :: undef :: undef :: undef :: undef :: undef :: undef :: undef :: undef :: undef :: undef :: undef :: []), defers := [] } := ⟨_, rfl⟩
    have HLIT := Lib.hid hlit
    clear hlit
    obtain ⟨val, hval⟩ : ∃ val : List Value, val = [.agg #[.int .i64 4, .int .i64 3, .int .i64 2, .int .i64 49659217, .int .i64 1453941846, .slice ra8 3 rc8], .slice (some ⟨b, off, none⟩) 3 cc, .pointer (some ⟨b, off, none⟩), .agg #[.int .i64 0, .slice (q 0) 2 (r 0), .slice (q 1) 2 (r 1)], undef, undef, undef, .int .i64 0, undef, .int .i64 0] := ⟨_, rfl⟩
    have E0 := Lib.hid (show val.getD 0 undef = .agg #[.int .i64 4, .int .i64 3, .int .i64 2, .int .i64 49659217, .int .i64 1453941846, .slice ra8 3 rc8] by rw [hval]; rfl)
    have E1 := Lib.hid (show val.getD 1 undef = .slice (some ⟨b, off, none⟩) 3 cc by rw [hval]; rfl)
    have E2 := Lib.hid (show val.getD 2 undef = .pointer (some ⟨b, off, none⟩) by rw [hval]; rfl)
    have E3 := Lib.hid (show val.getD 3 undef = .agg #[.int .i64 0, .slice (q 0) 2 (r 0), .slice (q 1) 2 (r 1)] by rw [hval]; rfl)
    have E7 := Lib.hid (show val.getD 7 undef = .int .i64 0 by rw [hval]; rfl)
    have E9 := Lib.hid (show val.getD 9 undef = .int .i64 0 by rw [hval]; rfl)
    clear hval
    obtain ⟨G, hG0⟩ : ∃ G : Bool → Nat → Value → World → Prop, G = (fun bq iq vq ww => (iq = 4 → QoT 0 ⟨4, 3, 2, 49659217, 1453941846⟩ [[1, 2], [], [5]] 3 0 bq vq ww) ∧ (iq = 5 → QoT 0 ⟨4, 3, 2, 49659217, 1453941846⟩ [[1, 2], [], [5]] 3 0 bq vq ww) ∧ (iq = 6 → QoA 0 ⟨4, 3, 2, 49659217, 1453941846⟩ [[1, 2], [], [5]] 3 bq vq ww) ∧ (iq ≠ 4 → iq ≠ 5 → iq ≠ 6 → iq ≠ 8 → vq = val.getD iq undef)) := ⟨_, rfl⟩
    have HG := Lib.hid hG0
    clear hG0
    refine region_inv (NS lit 8 (fun p q => (p == 8 && q == 0) || (p == 8 && q == 3) || (p == 8 && q == 4) || (p == 8 && q == 5) || (p == 8 && q == 6) || (p == 8 && q == 1) || (p == 8 && q == 2)) G fun bq wv => (bq = false → Below U8.heap.size U8 wv) ∧ (bq = true → Below U7.heap.size U7 wv ∧ BxO 0 ⟨4, 3, 2, 49659217, 1453941846⟩ [[1, 2], [], [5]] 3 k0 wv)) (by kernel_rfl) (by decide +kernel) ?_ ?_ ?_
    · exact NS.start (fun i => ([undef, undef, undef, undef, undef, undef, undef, undef, undef, undef] : List Value).getD i undef) (by rw [HLIT.out]; rfl) ⟨fun _ => below_drew _ _, fun h => (by cases h)⟩
    · refine ⟨?_, ?_, ?_, ?_, ?_, ?_, ?_, ?_, ?_, ?_, trivial⟩
      · intro bf ac wv hfb haf hJ K' hK
        obtain ⟨vs, rfl, ja, hB, j4⟩ := hJ
        replace hK := Lib.hid hK
        rw [HG.out] at j4
        have hd : bf 8 = false := by
          cases h : bf 8
          · rfl
          · exact absurd ((ja 8 0 rfl h).symm.trans hfb) (by simp)
        have hM := Lib.hid (hB.1 hd)
        replace j4 := Lib.hid (And.intro ja j4)
        replace hB := Lib.hid hB
        clear ja haf
        have x0 := (H88.out.step hM.out).c 0 rfl
        have x1 := (H88.out.step hM.out).c 1 rfl
        have x2 := (H88.out.step hM.out).c 2 rfl
        have x3 := (H88.out.step hM.out).c 3 rfl
        have x4 := (H88.out.step hM.out).c 4 rfl
        have x5 := (H88.out.step hM.out).c 5 rfl
        have xz := (H88.out.step hM.out).2.2
        rw [HLIT.out]
        go_simp
        exact hK.out _ _ (NS.next (wv := wv) (vs := vs) 0 (by omega) (fun q h => absurd h (by simp)) (x := .agg #[.int .i64 4, .int .i64 3, .int .i64 2, .int .i64 49659217, .int .i64 1453941846, .slice ra8 3 rc8]) (by rw [HLIT.out]; rfl) (by rw [HG.out]; exact j4.out) hB.out (by rw [HG.out]; exact fun _ _ h => h) (by rw [HG.out]; exact ⟨fun h => absurd h (by decide), fun h => absurd h (by decide), fun h => absurd h (by decide), fun _ _ _ _ => E0.out.symm⟩))
      · intro bf ac wv hfb haf hJ K' hK
        obtain ⟨vs, rfl, ja, hB, j4⟩ := hJ
        replace hK := Lib.hid hK
        rw [HG.out] at j4
        replace j4 := Lib.hid (And.intro ja j4)
        replace hB := Lib.hid hB
        clear ja haf
        rw [HLIT.out]
        go_simp
        exact hK.out _ _ (NS.next (wv := wv) (vs := vs) 1 (by omega) (fun q h => absurd h (by simp)) (x := .slice (some ⟨b, off, none⟩) 3 cc) (by rw [HLIT.out]; rfl) (by rw [HG.out]; exact j4.out) hB.out (by rw [HG.out]; exact fun _ _ h => h) (by rw [HG.out]; exact ⟨fun h => absurd h (by decide), fun h => absurd h (by decide), fun h => absurd h (by decide), fun _ _ _ _ => E1.out.symm⟩))
      · intro bf ac wv hfb haf hJ K' hK
        obtain ⟨vs, rfl, ja, hB, j4⟩ := hJ
        replace hK := Lib.hid hK
        simp [Region.binds] at haf
        rw [HG.out] at j4
        have e1 := ((j4 1 (by simp [haf])).2.2.2 (by decide) (by decide) (by decide) (by decide)).trans E1.out
        replace j4 := Lib.hid (And.intro ja j4)
        replace hB := Lib.hid hB
        clear ja haf
        rw [HLIT.out]
        go_simp
        exact hK.out _ _ (NS.next (wv := wv) (vs := vs) 2 (by omega) (fun q h => absurd h (by simp)) (x := .pointer (some ⟨b, off, none⟩)) (by rw [HLIT.out]; simp only [upv, e1, Nat.reduceBEq, cond_true, cond_false]) (by rw [HG.out]; exact j4.out) hB.out (by rw [HG.out]; exact fun _ _ h => h) (by rw [HG.out]; exact ⟨fun h => absurd h (by decide), fun h => absurd h (by decide), fun h => absurd h (by decide), fun _ _ _ _ => E2.out.symm⟩))
      · intro bf ac wv hfb haf hJ K' hK
        obtain ⟨vs, rfl, ja, hB, j4⟩ := hJ
        replace hK := Lib.hid hK
        simp [Region.binds] at haf
        rw [HG.out] at j4
        have e2 := ((j4 2 (by simp [haf])).2.2.2 (by decide) (by decide) (by decide) (by decide)).trans E2.out
        have hd : bf 8 = false := by
          cases h : bf 8
          · rfl
          · exact absurd ((ja 8 3 rfl h).symm.trans hfb) (by simp)
        have hM := Lib.hid (hB.1 hd)
        replace j4 := Lib.hid (And.intro ja j4)
        replace hB := Lib.hid hB
        clear ja haf
        have hPP := H78.out.step hM.out
        have yp6 : wv.cell? ⟨b, off, none⟩ = some (.int .i64 0) := hPP.c0
        have yp7 : wv.cell? ⟨b, off + 1, none⟩ = some (.slice (q 0) 2 (r 0)) := hPP.c1
        have yp8 : wv.cell? ⟨b, off + 2, none⟩ = some (.slice (q 1) 2 (r 1)) := hPP.c2
        have ypz := hPP.lt
        clear hPP
        rw [HLIT.out]
        go_simp
        exact hK.out _ _ (NS.next (wv := wv) (vs := vs) 3 (by omega) (fun q h => absurd h (by simp)) (x := .agg #[.int .i64 0, .slice (q 0) 2 (r 0), .slice (q 1) 2 (r 1)]) (by rw [HLIT.out]; simp only [upv, e2, Nat.reduceBEq, cond_true, cond_false]) (by rw [HG.out]; exact j4.out) hB.out (by rw [HG.out]; exact fun _ _ h => h) (by rw [HG.out]; exact ⟨fun h => absurd h (by decide), fun h => absurd h (by decide), fun h => absurd h (by decide), fun _ _ _ _ => E3.out.symm⟩))
      · intro bf ac wv hfb haf hJ K' hK
        obtain ⟨vs, rfl, ja, hB, j4⟩ := hJ
        replace hK := Lib.hid hK
        simp [Region.binds] at haf
        rw [HG.out] at j4
        have e0 := ((j4 0 (by simp [haf])).2.2.2 (by decide) (by decide) (by decide) (by decide)).trans E0.out
        have e3 := ((j4 3 (by simp [haf])).2.2.2 (by decide) (by decide) (by decide) (by decide)).trans E3.out
        have hd : bf 8 = false := by
          cases h : bf 8
          · rfl
          · exact absurd ((ja 8 4 rfl h).symm.trans hfb) (by simp)
        have hM := Lib.hid (hB.1 hd)
        replace j4 := Lib.hid (And.intro ja j4)
        replace hB := Lib.hid hB
        clear ja haf
        rw [HLIT.out]
        go_simp
        go_at_call 15
        refine (add_any ⟨4, 3, 2, 49659217, 1453941846⟩ 0 _ [[], [], [5]] _ [1, 2] _ [643105354, 1400794521] wv (H89.out.step hM.out).rows ((H78.out.step hM.out).d0) (H78.out.step hM.out).p0 (by simp) (by simp) (by simp) hd_ad2 hd_al2).mono ?_
        rintro e w4 ⟨u4, nnr, rfl, -, hr, b4⟩
        obtain ⟨uar, ucr, rfl⟩ : ∃ (a : Option Addr) (c : Nat), u4 = .slice a 3 c := by
          obtain ⟨a, c, e, -⟩ := hr
          exact ⟨a, c, e⟩
        exact hK.out _ _ (NS.next (wv := wv) (vs := vs) 4 (by omega) (fun q h => absurd h (by simp)) (x := (.tuple #[.agg #[.int .i64 4, .int .i64 3, .int .i64 2, .int .i64 49659217, .int .i64 1453941846, .slice uar 3 ucr], .int .i64 0])) (by rw [HLIT.out]; simp only [upv, e0, e3, Nat.reduceBEq, cond_true, cond_false]) (by rw [HG.out]; exact j4.out) ⟨fun _ => keep2 b4 hM.out, fun e => absurd (e.symm.trans hd) (by simp)⟩ (by rw [HG.out]; exact fun k hbk h => ⟨fun q => (h.1 q).step b4, fun q => (h.2.1 q).step b4, fun q => (h.2.2.1 q).step b4, h.2.2.2⟩) (by rw [HG.out]; exact ⟨fun _ => ⟨uar, ucr, nnr, rfl, fun _ => hr⟩, fun h => absurd h (by decide), fun h => absurd h (by decide), fun h4 => absurd rfl h4⟩))
      · intro bf ac wv hfb haf hJ K' hK
        obtain ⟨vs, rfl, ja, hB, j4⟩ := hJ
        replace hK := Lib.hid hK
        simp [Region.binds] at haf
        rw [HG.out] at j4
        have e4 := (j4 4 (by simp [haf])).1 rfl
        replace j4 := Lib.hid (And.intro ja j4)
        replace hB := Lib.hid hB
        clear ja haf
        obtain ⟨uar, ucr, nnr, e4, hr⟩ := e4
        rw [HLIT.out]
        go_simp
        exact hK.out _ _ (NS.next (wv := wv) (vs := vs) 5 (by omega) (fun q h => absurd h (by simp)) (x := (.tuple #[.agg #[.int .i64 4, .int .i64 3, .int .i64 2, .int .i64 49659217, .int .i64 1453941846, .slice uar 3 ucr], .int .i64 0])) (by rw [HLIT.out]; simp only [upv, e4, Nat.reduceBEq, cond_true, cond_false]) (by rw [HG.out]; exact j4.out) hB.out (by rw [HG.out]; exact fun _ _ h => h) (by rw [HG.out]; exact ⟨fun h => absurd h (by decide), fun _ => ⟨uar, ucr, nnr, rfl, hr⟩, fun h => absurd h (by decide), fun h4 h5 => absurd rfl h5⟩))
      · intro bf ac wv hfb haf hJ K' hK
        obtain ⟨vs, rfl, ja, hB, j4⟩ := hJ
        replace hK := Lib.hid hK
        simp [Region.binds] at haf
        rw [HG.out] at j4
        have e5 := (j4 5 (by simp [haf])).2.1 rfl
        replace j4 := Lib.hid (And.intro ja j4)
        replace hB := Lib.hid hB
        clear ja haf
        obtain ⟨uar, ucr, nnr, e5, hr⟩ := e5
        rw [HLIT.out]
        go_simp
        exact hK.out _ _ (NS.next (wv := wv) (vs := vs) 6 (by omega) (fun q h => absurd h (by simp)) (x := (.agg #[.int .i64 4, .int .i64 3, .int .i64 2, .int .i64 49659217, .int .i64 1453941846, .slice uar 3 ucr])) (by rw [HLIT.out]; simp only [upv, e5, Nat.reduceBEq, cond_true, cond_false]) (by rw [HG.out]; exact j4.out) hB.out (by rw [HG.out]; exact fun _ _ h => h) (by rw [HG.out]; exact ⟨fun h => absurd h (by decide), fun h => absurd h (by decide), fun _ => ⟨uar, ucr, nnr, rfl, hr⟩, fun h4 h5 h6 => absurd rfl h6⟩))
      · intro bf ac wv hfb haf hJ K' hK
        obtain ⟨vs, rfl, ja, hB, j4⟩ := hJ
        replace hK := Lib.hid hK
        simp [Region.binds] at haf
        rw [HG.out] at j4
        have e5 := (j4 5 (by simp [haf])).2.1 rfl
        replace j4 := Lib.hid (And.intro ja j4)
        replace hB := Lib.hid hB
        clear ja haf
        obtain ⟨uar, ucr, nnr, e5, hr⟩ := e5
        rw [HLIT.out]
        go_simp
        exact hK.out _ _ (NS.next (wv := wv) (vs := vs) 7 (by omega) (fun q h => absurd h (by simp)) (x := .int .i64 0) (by rw [HLIT.out]; simp only [upv, e5, Nat.reduceBEq, cond_true, cond_false]) (by rw [HG.out]; exact j4.out) hB.out (by rw [HG.out]; exact fun _ _ h => h) (by rw [HG.out]; exact ⟨fun h => absurd h (by decide), fun h => absurd h (by decide), fun h => absurd h (by decide), fun _ _ _ _ => E7.out.symm⟩))
      · intro bf ac wv hfb haf hJ K' hK
        obtain ⟨vs, rfl, ja, hB, j4⟩ := hJ
        replace hK := Lib.hid hK
        simp [Region.binds] at haf
        rw [HG.out] at j4
        have e6 := (j4 6 (by simp [haf])).2.2.1 rfl
        rw [hfb] at j4 hB
        try rw [hfb] at e6
        have HA := Lib.hid (show ∀ q, (fun p q => (p == 8 && q == 0) || (p == 8 && q == 3) || (p == 8 && q == 4) || (p == 8 && q == 5) || (p == 8 && q == 6) || (p == 8 && q == 1) || (p == 8 && q == 2)) 8 q = true → bf q = true from fun q hi => by
          obtain rfl | rfl | rfl | rfl | rfl | rfl | rfl : q = 0 ∨ q = 3 ∨ q = 4 ∨ q = 5 ∨ q = 6 ∨ q = 1 ∨ q = 2 := by simpa [or_assoc] using hi
          all_goals simp [haf])
        have hM := Lib.hid (hB.1 rfl)
        replace j4 := Lib.hid j4
        have HE := Lib.hid (And.intro ja HA.out)
        clear ja haf hB HA
        obtain ⟨uar, ucr, nnr, e6, hr⟩ := e6
        replace hr := Lib.hid (hr rfl)
        have HZ := Lib.hid (H87.out.step hM.out)
        have HZC := Lib.hid (cs_of_box HZ.out)
        have x0 := HZC.out.c 0 rfl
        have y0 := HZC.out.f 0 (by simp)
        have x1 := HZC.out.c 1 rfl
        have y1 := HZC.out.f 1 (by simp)
        have x2 := HZC.out.c 2 rfl
        have y2 := HZC.out.f 2 (by simp)
        have x3 := HZC.out.c 3 rfl
        have y3 := HZC.out.f 3 (by simp)
        have x4 := HZC.out.c 4 rfl
        have y4 := HZC.out.f 4 (by simp)
        have x5 := HZC.out.c 5 rfl
        have y5 := HZC.out.f 5 (by simp)
        have xz := HZC.out.2.2
        rw [HLIT.out]
        go_simp
        have p1 : BxO 0 ⟨4, 3, 2, 49659217, 1453941846⟩ [[1, 2], [], [5]] 3 k0 (putS wv k0 ⟨4, 3, 2, 49659217, 1453941846⟩ (.slice uar 3 ucr)) := ⟨uar, ucr, nnr, box_putS HZ.out rfl ⟨4, 3, 2, 49659217, 1453941846⟩ _, hr.out.putS (Nat.zero_le _) (tyB_box HZ.out) ⟨4, 3, 2, 49659217, 1453941846⟩ _⟩
        have p3 : Below U7.heap.size U7 (putS wv k0 ⟨4, 3, 2, 49659217, 1453941846⟩ (.slice uar 3 ucr)) := (HB7.out.trans (hM.out.mono HB7.out.size)).trans (putS_below _ HK0.out ⟨4, 3, 2, 49659217, 1453941846⟩ _)
        exact hK.out _ _ (NS.put (vs := vs) (w' := putS wv k0 ⟨4, 3, 2, 49659217, 1453941846⟩ (.slice uar 3 ucr)) (by rw [HLIT.out]; simp only [e6]) HE.out ⟨fun e => (by cases e), fun _ => ⟨p3, p1⟩⟩ (fun j hj hb => by
          rw [HG.out]
          have q := j4.out j hb
          exact ⟨fun h => (q.1 h).put _, fun h => (q.2.1 h).put _, fun h => (q.2.2.1 h).put _, q.2.2.2⟩) (fun v => by rw [HG.out]; exact ⟨fun h => absurd h (by decide), fun h => absurd h (by decide), fun h => absurd h (by decide), fun h4 h5 h6 h8 => absurd rfl h8⟩))
      · intro bf ac wv hfb haf hJ K' hK
        obtain ⟨vs, rfl, ja, hB, j4⟩ := hJ
        replace hK := Lib.hid hK
        simp [Region.binds] at haf
        rw [HG.out] at j4
        have e7 := ((j4 7 (by simp [haf])).2.2.2 (by decide) (by decide) (by decide) (by decide)).trans E7.out
        replace j4 := Lib.hid (And.intro ja j4)
        replace hB := Lib.hid hB
        clear ja haf
        rw [HLIT.out]
        go_simp
        exact hK.out _ _ (NS.next (wv := wv) (vs := vs) 9 (by omega) (fun q h => absurd h (by simp)) (x := .int .i64 0) (by rw [HLIT.out]; simp only [upv, e7, Nat.reduceBEq, cond_true, cond_false]) (by rw [HG.out]; exact j4.out) hB.out (by rw [HG.out]; exact fun _ _ h => h) (by rw [HG.out]; exact ⟨fun h => absurd h (by decide), fun h => absurd h (by decide), fun h => absurd h (by decide), fun _ _ _ _ => E9.out.symm⟩))
    · intro bf ac wv hall hJ
      obtain ⟨vs, rfl, -, hB, j4⟩ := hJ
      rw [HG.out] at j4
      rw [hall 8 (by decide)] at hB j4
      have hM := Lib.hid (hB.2 rfl)
      clear hB
      obtain ⟨h77, hbx⟩ := hM.out
      have e9 := ((j4 9 (hall 9 (by decide))).2.2.2 (by decide) (by decide) (by decide) (by decide)).trans E9.out
      clear HB7
      have HBX := Lib.hid hbx
      have HB7 := Lib.hid h77
      clear hM j4 hall hbx h77
      rw [HLIT.out]
      dsimp only
      rw [e9]
      clear e9 HLIT HG
      generalize vs = us89
      clear H87
      clear H88
      clear H89
      obtain ⟨U9, hU9⟩ : ∃ z9, wv = z9 := ⟨_, rfl⟩
      rw [hU9] at HBX HB7 ⊢
      clear hU9
      have H90 := Lib.hid (H68.out.step HB7.out)
      have H91 := Lib.hid (H69.out.step HB7.out)
      have H92 := Lib.hid (H70.out.step HB7.out)
      have H93 := Lib.hid (H71.out.step HB7.out)
      have H94 := Lib.hid (H72.out.step HB7.out)
      have H95 := Lib.hid (H73.out.step HB7.out)
      have H96 := Lib.hid (H74.out.step HB7.out)
      have H97 := Lib.hid (H75.out.step HB7.out)
      have H98 := Lib.hid (H67.out.step HB7.out)
      have H99 := Lib.hid (keep2 HB7.out H76.out)
      obtain ⟨ra9, rc9, nr9, hbo9, how9⟩ := HBX.out
      have H100 := Lib.hid (hbo9)
      have H101 := Lib.hid (cs_of_box hbo9)
      have H102 := Lib.hid (how9)
      clear hbo9 how9 HBX
      have xk0 := H101.out.c 0 rfl
      have xk1 := H101.out.c 1 rfl
      have xk2 := H101.out.c 2 rfl
      have xk3 := H101.out.c 3 rfl
      have xk4 := H101.out.c 4 rfl
      have xk5 := H101.out.c 5 rfl
      have zk := H101.out.2.2
      have yp0 : U9.cell? ⟨b, off, none⟩ = some (.int .i64 0) := H91.out.c0
      have yp1 : U9.cell? ⟨b, off + 1, none⟩ = some (.slice (q 0) 2 (r 0)) := H91.out.c1
      have yp2 : U9.cell? ⟨b, off + 2, none⟩ = some (.slice (q 1) 2 (r 1)) := H91.out.c2
      have yp3 : U9.cell? ⟨b, off + 3, none⟩ = some (.int .i64 1) := H91.out.c3
      have yp4 : U9.cell? ⟨b, off + 3 + 1, none⟩ = some (.slice (q 2) 2 (r 2)) := H91.out.c4
      have yp5 : U9.cell? ⟨b, off + 3 + 2, none⟩ = some (.slice (q 3) 2 (r 3)) := H91.out.c5
      have yp6 : U9.cell? ⟨b, off + 6, none⟩ = some (.int .i64 2) := H91.out.c6
      have yp7 : U9.cell? ⟨b, off + 6 + 1, none⟩ = some (.slice (q 4) 1 (r 4)) := H91.out.c7
      have yp8 : U9.cell? ⟨b, off + 6 + 2, none⟩ = some (.slice (some ⟨pb, po, none⟩) 2 (r 5)) := (by rw [← HQ5.out]; exact H91.out.c8)
      have ypz : b < U9.heap.size := H91.out.lt
      go_upto_region 9 with fail
      clear xk0 xk1 xk2 xk3 xk4 xk5 zk yp0 yp1 yp2 yp3 yp4 yp5 yp6 yp7 yp8 ypz
      obtain ⟨lit, hlit⟩ : ∃ lit : (Nat → Value) → Act, lit = fun vs => { tmps := List.toArray (Value.bool false :: Value.pointer (some { block := u1.heap.size, off := 0 }) :: Value.slice (some { block := b, off := off }) 3 cc :: Value.int IntKind.i64 0 :: Value.pointer (some { block := u3.heap.size, off := 0 }) :: Value.int IntKind.i64 0 :: Value.pointer (some { block := u4.heap.size, off := 0 }) :: Value.int IntKind.i64 31 :: Value.pointer (some { block := u5.heap.size, off := 0 }) :: Value.int IntKind.i64 15 :: Value.pointer (some { block := k0, off := 0 }) :: Value.int IntKind.i64 0 :: Value.int IntKind.i64 0 :: vs 9 :: undef :: undef :: undef :: undef :: undef :: undef :: undef :: undef :: undef :: Value.tuple #[Value.agg #[Value.int IntKind.i64 4, Value.int IntKind.i64 3, Value.int IntKind.i64 2, Value.int IntKind.i64 49659217, Value.int IntKind.i64 1453941846], Value.slice (some { block := b, off := off }) 3 cc, Value.int IntKind.i64 0] :: Value.slice (some { block := w.heap.size, off := 0 }) 5 5 :: Value.tuple #[Value.agg #[Value.int IntKind.i64 4, Value.int IntKind.i64 3, Value.int IntKind.i64 2, Value.int IntKind.i64 49659217, Value.int IntKind.i64 1453941846], Value.slice (some { block := b, off := off }) 3 cc, Value.int IntKind.i64 0] :: Value.agg #[Value.int IntKind.i64 4, Value.int IntKind.i64 3, Value.int IntKind.i64 2, Value.int IntKind.i64 49659217, Value.int IntKind.i64 1453941846] :: Value.slice (some { block := b, off := off }) 3 cc :: Value.int IntKind.i64 0 :: Value.int IntKind.i64 0 :: Value.bool false :: Value.bool false :: Value.pointer (some { block := u1.heap.size, off := 1 }) :: Value.int IntKind.i64 3 :: Value.bool false :: Value.bool false :: Value.bool false :: Value.slice (some { block := b, off := off }) 3 cc :: Value.int IntKind.i64 3 :: Value.bool false :: Value.bool false :: Value.bool false :: Value.slice (some { block := b, off := off }) 3 cc :: Value.pointer (some { block := b, off := off + 6 }) :: Value.pointer (some { block := b, off := off + 6 + 1 }) :: Value.slice (q 4) 1 (r 4) :: Value.slice (some { block := u1.heap.size + 1, off := 0 }) 1 1 :: Value.bool true :: Value.bool false :: Value.bool false :: Value.bool false :: Value.slice (some { block := b, off := off }) 3 cc :: Value.pointer (some { block := b, off := off + 6 }) :: Value.pointer (some { block := b, off := off + 6 + 2 }) :: Value.slice (some { block := pb, off := po }) 2 (r 5) :: Value.int IntKind.i64 2 :: Value.bool false :: Value.bool false :: Value.bool false :: Value.slice (some { block := b, off := off }) 3 cc :: Value.pointer (some { block := b, off := off + 6 }) :: Value.pointer (some { block := b, off := off + 6 + 2 }) :: Value.slice (some { block := pb, off := po }) 2 (r 5) :: Value.pointer (some { block := pb, off := po }) :: Value.int IntKind.i64 (-1) :: Value.bool false :: Value.bool false :: Value.tuple #[Value.agg #[Value.int IntKind.i64 4, Value.int IntKind.i64 3, Value.int IntKind.i64 2, Value.int IntKind.i64 49659217, Value.int IntKind.i64 1453941846, Value.slice sa 3 sc], Value.int IntKind.i64 0] :: Value.agg #[Value.int IntKind.i64 4, Value.int IntKind.i64 3, Value.int IntKind.i64 2, Value.int IntKind.i64 49659217, Value.int IntKind.i64 1453941846] :: Value.tuple #[Value.agg #[Value.int IntKind.i64 4, Value.int IntKind.i64 3, Value.int IntKind.i64 2, Value.int IntKind.i64 49659217, Value.int IntKind.i64 1453941846, Value.slice sa 3 sc], Value.int IntKind.i64 0] :: Value.agg #[Value.int IntKind.i64 4, Value.int IntKind.i64 3, Value.int IntKind.i64 2, Value.int IntKind.i64 49659217, Value.int IntKind.i64 1453941846, Value.slice sa 3 sc] :: Value.int IntKind.i64 0 :: Value.tuple #[Value.agg #[Value.int IntKind.i64 0, Value.int IntKind.i64 0, Value.int IntKind.i64 0, Value.int IntKind.i64 0, Value.int IntKind.i64 0, Value.slice uba 0 ubc], Value.int IntKind.i64 31] :: Value.agg #[Value.int IntKind.i64 4, Value.int IntKind.i64 3, Value.int IntKind.i64 2, Value.int IntKind.i64 49659217, Value.int IntKind.i64 1453941846] :: Value.tuple #[Value.agg #[Value.int IntKind.i64 0, Value.int IntKind.i64 0, Value.int IntKind.i64 0, Value.int IntKind.i64 0, Value.int IntKind.i64 0, Value.slice uba 0 ubc], Value.int IntKind.i64 31] :: Value.agg #[Value.int IntKind.i64 0, Value.int IntKind.i64 0, Value.int IntKind.i64 0, Value.int IntKind.i64 0, Value.int IntKind.i64 0, Value.slice uba 0 ubc] :: Value.int IntKind.i64 31 :: Value.tuple #[Value.agg #[Value.int IntKind.i64 0, Value.int IntKind.i64 0, Value.int IntKind.i64 0, Value.int IntKind.i64 0, Value.int IntKind.i64 0, Value.slice uca 0 ucc], Value.int IntKind.i64 15] :: Value.agg #[Value.int IntKind.i64 4, Value.int IntKind.i64 3, Value.int IntKind.i64 2, Value.int IntKind.i64 49659217, Value.int IntKind.i64 1453941846] :: Value.tuple #[Value.agg #[Value.int IntKind.i64 0, Value.int IntKind.i64 0, Value.int IntKind.i64 0, Value.int IntKind.i64 0, Value.int IntKind.i64 0, Value.slice uca 0 ucc], Value.int IntKind.i64 15] :: Value.agg #[Value.int IntKind.i64 0, Value.int IntKind.i64 0, Value.int IntKind.i64 0, Value.int IntKind.i64 0, Value.int IntKind.i64 0, Value.slice uca 0 ucc] :: Value.int IntKind.i64 15 :: us8 5 :: us8 0 :: us8 1 :: us8 2 :: us8 3 :: us8 4 :: us8 6 :: us8 7 :: us89 5 :: us89 0 :: us89 1 :: us89 2 :: us89 3 :: us89 4 :: us89 6 :: us89 7 :: vs 5 :: vs 0 :: vs 1 :: vs 2 :: vs 3 :: vs 4 :: vs 6 :: vs 7 :: undef :: undef :: undef :: undef :: undef :: undef :: undef :: undef :: undef :: undef :: undef :: undef :: undef :: undef :: undef :: undef :: undef :: undef :: undef :: undef :: undef :: undef :: undef :: undef :: undef :: undef :: undef :: undef :: undef :: undef :: undef :: undef :: undef :: undef :: undef :: undef :: undef :: undef :: undef :: undef :: undef :: undef :: undef :: undef :: undef :: undef :: undef :: undef :: undef :: undef :: undef :: undef :: undef :: undef :: undef :: undef :: undef :: undef :: undef :: undef :: undef :: undef :: undef :: undef :: undef :: undef :: undef :: undef :: undef :: undef :: undef :: undef :: undef :: undef :: undef :: undef :: undef :: undef :: undef :: undef :: undef :: undef :: undef :: undef :: undef :: undef :: undef :: []), defers := [] } := ⟨_, rfl⟩
      have HLIT := Lib.hid hlit
      clear hlit
      obtain ⟨val, hval⟩ : ∃ val : List Value, val = [.agg #[.int .i64 4, .int .i64 3, .int .i64 2, .int .i64 49659217, .int .i64 1453941846, .slice ra9 3 rc9], .slice (some ⟨b, off, none⟩) 3 cc, .pointer (some ⟨b, off + 6, none⟩), .agg #[.int .i64 2, .slice (q 4) 1 (r 4), .slice (some ⟨pb, po, none⟩) 2 (r 5)], undef, undef, undef, .int .i64 0, undef, .int .i64 0] := ⟨_, rfl⟩
      have E0 := Lib.hid (show val.getD 0 undef = .agg #[.int .i64 4, .int .i64 3, .int .i64 2, .int .i64 49659217, .int .i64 1453941846, .slice ra9 3 rc9] by rw [hval]; rfl)
      have E1 := Lib.hid (show val.getD 1 undef = .slice (some ⟨b, off, none⟩) 3 cc by rw [hval]; rfl)
      have E2 := Lib.hid (show val.getD 2 undef = .pointer (some ⟨b, off + 6, none⟩) by rw [hval]; rfl)
      have E3 := Lib.hid (show val.getD 3 undef = .agg #[.int .i64 2, .slice (q 4) 1 (r 4), .slice (some ⟨pb, po, none⟩) 2 (r 5)] by rw [hval]; rfl)
      have E7 := Lib.hid (show val.getD 7 undef = .int .i64 0 by rw [hval]; rfl)
      have E9 := Lib.hid (show val.getD 9 undef = .int .i64 0 by rw [hval]; rfl)
      clear hval
      obtain ⟨G, hG0⟩ : ∃ G : Bool → Nat → Value → World → Prop, G = (fun bq iq vq ww => (iq = 4 → QoT 0 ⟨4, 3, 2, 49659217, 1453941846⟩ [[1, 2], [], [5]] 3 0 bq vq ww) ∧ (iq = 5 → QoT 0 ⟨4, 3, 2, 49659217, 1453941846⟩ [[1, 2], [], [5]] 3 0 bq vq ww) ∧ (iq = 6 → QoA 0 ⟨4, 3, 2, 49659217, 1453941846⟩ [[1, 2], [], [5]] 3 bq vq ww) ∧ (iq ≠ 4 → iq ≠ 5 → iq ≠ 6 → iq ≠ 8 → vq = val.getD iq undef)) := ⟨_, rfl⟩
      have HG := Lib.hid hG0
      clear hG0
      refine region_inv (NS lit 8 (fun p q => (p == 8 && q == 0) || (p == 8 && q == 3) || (p == 8 && q == 4) || (p == 8 && q == 5) || (p == 8 && q == 6) || (p == 8 && q == 1) || (p == 8 && q == 2)) G fun bq wv => (bq = false → Below U9.heap.size U9 wv) ∧ (bq = true → Below U7.heap.size U7 wv ∧ BxO 0 ⟨4, 3, 2, 49659217, 1453941846⟩ [[1, 2], [], [5]] 3 k0 wv)) (by kernel_rfl) (by decide +kernel) ?_ ?_ ?_
      · exact NS.start (fun i => ([undef, undef, undef, undef, undef, undef, undef, undef, undef, undef] : List Value).getD i undef) (by rw [HLIT.out]; rfl) ⟨fun _ => below_drew _ _, fun h => (by cases h)⟩
      · refine ⟨?_, ?_, ?_, ?_, ?_, ?_, ?_, ?_, ?_, ?_, trivial⟩
        · intro bf ac wv hfb haf hJ K' hK
          obtain ⟨vs, rfl, ja, hB, j4⟩ := hJ
          replace hK := Lib.hid hK
          rw [HG.out] at j4
          have hd : bf 8 = false := by
            cases h : bf 8
            · rfl
            · exact absurd ((ja 8 0 rfl h).symm.trans hfb) (by simp)
          have hM := Lib.hid (hB.1 hd)
          replace j4 := Lib.hid (And.intro ja j4)
          replace hB := Lib.hid hB
          clear ja haf
          have x0 := (H101.out.step hM.out).c 0 rfl
          have x1 := (H101.out.step hM.out).c 1 rfl
          have x2 := (H101.out.step hM.out).c 2 rfl
          have x3 := (H101.out.step hM.out).c 3 rfl
          have x4 := (H101.out.step hM.out).c 4 rfl
          have x5 := (H101.out.step hM.out).c 5 rfl
          have xz := (H101.out.step hM.out).2.2
          rw [HLIT.out]
          go_simp
          exact hK.out _ _ (NS.next (wv := wv) (vs := vs) 0 (by omega) (fun q h => absurd h (by simp)) (x := .agg #[.int .i64 4, .int .i64 3, .int .i64 2, .int .i64 49659217, .int .i64 1453941846, .slice ra9 3 rc9]) (by rw [HLIT.out]; rfl) (by rw [HG.out]; exact j4.out) hB.out (by rw [HG.out]; exact fun _ _ h => h) (by rw [HG.out]; exact ⟨fun h => absurd h (by decide), fun h => absurd h (by decide), fun h => absurd h (by decide), fun _ _ _ _ => E0.out.symm⟩))
        · intro bf ac wv hfb haf hJ K' hK
          obtain ⟨vs, rfl, ja, hB, j4⟩ := hJ
          replace hK := Lib.hid hK
          rw [HG.out] at j4
          replace j4 := Lib.hid (And.intro ja j4)
          replace hB := Lib.hid hB
          clear ja haf
          rw [HLIT.out]
          go_simp
          exact hK.out _ _ (NS.next (wv := wv) (vs := vs) 1 (by omega) (fun q h => absurd h (by simp)) (x := .slice (some ⟨b, off, none⟩) 3 cc) (by rw [HLIT.out]; rfl) (by rw [HG.out]; exact j4.out) hB.out (by rw [HG.out]; exact fun _ _ h => h) (by rw [HG.out]; exact ⟨fun h => absurd h (by decide), fun h => absurd h (by decide), fun h => absurd h (by decide), fun _ _ _ _ => E1.out.symm⟩))
        · intro bf ac wv hfb haf hJ K' hK
          obtain ⟨vs, rfl, ja, hB, j4⟩ := hJ
          replace hK := Lib.hid hK
          simp [Region.binds] at haf
          rw [HG.out] at j4
          have e1 := ((j4 1 (by simp [haf])).2.2.2 (by decide) (by decide) (by decide) (by decide)).trans E1.out
          replace j4 := Lib.hid (And.intro ja j4)
          replace hB := Lib.hid hB
          clear ja haf
          rw [HLIT.out]
          go_simp
          exact hK.out _ _ (NS.next (wv := wv) (vs := vs) 2 (by omega) (fun q h => absurd h (by simp)) (x := .pointer (some ⟨b, off + 6, none⟩)) (by rw [HLIT.out]; simp only [upv, e1, Nat.reduceBEq, cond_true, cond_false]) (by rw [HG.out]; exact j4.out) hB.out (by rw [HG.out]; exact fun _ _ h => h) (by rw [HG.out]; exact ⟨fun h => absurd h (by decide), fun h => absurd h (by decide), fun h => absurd h (by decide), fun _ _ _ _ => E2.out.symm⟩))
        · intro bf ac wv hfb haf hJ K' hK
          obtain ⟨vs, rfl, ja, hB, j4⟩ := hJ
          replace hK := Lib.hid hK
          simp [Region.binds] at haf
          rw [HG.out] at j4
          have e2 := ((j4 2 (by simp [haf])).2.2.2 (by decide) (by decide) (by decide) (by decide)).trans E2.out
          have hd : bf 8 = false := by
            cases h : bf 8
            · rfl
            · exact absurd ((ja 8 3 rfl h).symm.trans hfb) (by simp)
          have hM := Lib.hid (hB.1 hd)
          replace j4 := Lib.hid (And.intro ja j4)
          replace hB := Lib.hid hB
          clear ja haf
          have hPP := H91.out.step hM.out
          have yp6 : wv.cell? ⟨b, off + 6, none⟩ = some (.int .i64 2) := hPP.c6
          have yp7 : wv.cell? ⟨b, off + 6 + 1, none⟩ = some (.slice (q 4) 1 (r 4)) := hPP.c7
          have yp8 : wv.cell? ⟨b, off + 6 + 2, none⟩ = some (.slice (some ⟨pb, po, none⟩) 2 (r 5)) := by rw [← HQ5.out]; exact hPP.c8
          have ypz := hPP.lt
          clear hPP
          rw [HLIT.out]
          go_simp
          exact hK.out _ _ (NS.next (wv := wv) (vs := vs) 3 (by omega) (fun q h => absurd h (by simp)) (x := .agg #[.int .i64 2, .slice (q 4) 1 (r 4), .slice (some ⟨pb, po, none⟩) 2 (r 5)]) (by rw [HLIT.out]; simp only [upv, e2, Nat.reduceBEq, cond_true, cond_false]) (by rw [HG.out]; exact j4.out) hB.out (by rw [HG.out]; exact fun _ _ h => h) (by rw [HG.out]; exact ⟨fun h => absurd h (by decide), fun h => absurd h (by decide), fun h => absurd h (by decide), fun _ _ _ _ => E3.out.symm⟩))
        · intro bf ac wv hfb haf hJ K' hK
          obtain ⟨vs, rfl, ja, hB, j4⟩ := hJ
          replace hK := Lib.hid hK
          simp [Region.binds] at haf
          rw [HG.out] at j4
          have e0 := ((j4 0 (by simp [haf])).2.2.2 (by decide) (by decide) (by decide) (by decide)).trans E0.out
          have e3 := ((j4 3 (by simp [haf])).2.2.2 (by decide) (by decide) (by decide) (by decide)).trans E3.out
          have hd : bf 8 = false := by
            cases h : bf 8
            · rfl
            · exact absurd ((ja 8 4 rfl h).symm.trans hfb) (by simp)
          have hM := Lib.hid (hB.1 hd)
          replace j4 := Lib.hid (And.intro ja j4)
          replace hB := Lib.hid hB
          clear ja haf
          rw [HLIT.out]
          go_simp
          go_at_call 15
          refine (add_any ⟨4, 3, 2, 49659217, 1453941846⟩ 2 _ [[1, 2], [], [5]] _ [5] _ [-1, 1902135710] wv (H102.out.step hM.out).rows ((H91.out.step hM.out).d2) (by rw [← HQ5.out]; exact (H91.out.step hM.out).p2) (by simp) (by simp) (by simp) hd_ad3 hd_al3).mono ?_
          rintro e w4 ⟨u4, nnr, rfl, -, hr, b4⟩
          obtain ⟨uar, ucr, rfl⟩ : ∃ (a : Option Addr) (c : Nat), u4 = .slice a 3 c := by
            obtain ⟨a, c, e, -⟩ := hr
            exact ⟨a, c, e⟩
          exact hK.out _ _ (NS.next (wv := wv) (vs := vs) 4 (by omega) (fun q h => absurd h (by simp)) (x := (.tuple #[.agg #[.int .i64 4, .int .i64 3, .int .i64 2, .int .i64 49659217, .int .i64 1453941846, .slice uar 3 ucr], .int .i64 0])) (by rw [HLIT.out]; simp only [upv, e0, e3, Nat.reduceBEq, cond_true, cond_false]) (by rw [HG.out]; exact j4.out) ⟨fun _ => keep2 b4 hM.out, fun e => absurd (e.symm.trans hd) (by simp)⟩ (by rw [HG.out]; exact fun k hbk h => ⟨fun q => (h.1 q).step b4, fun q => (h.2.1 q).step b4, fun q => (h.2.2.1 q).step b4, h.2.2.2⟩) (by rw [HG.out]; exact ⟨fun _ => ⟨uar, ucr, nnr, rfl, fun _ => hr⟩, fun h => absurd h (by decide), fun h => absurd h (by decide), fun h4 => absurd rfl h4⟩))
        · intro bf ac wv hfb haf hJ K' hK
          obtain ⟨vs, rfl, ja, hB, j4⟩ := hJ
          replace hK := Lib.hid hK
          simp [Region.binds] at haf
          rw [HG.out] at j4
          have e4 := (j4 4 (by simp [haf])).1 rfl
          replace j4 := Lib.hid (And.intro ja j4)
          replace hB := Lib.hid hB
          clear ja haf
          obtain ⟨uar, ucr, nnr, e4, hr⟩ := e4
          rw [HLIT.out]
          go_simp
          exact hK.out _ _ (NS.next (wv := wv) (vs := vs) 5 (by omega) (fun q h => absurd h (by simp)) (x := (.tuple #[.agg #[.int .i64 4, .int .i64 3, .int .i64 2, .int .i64 49659217, .int .i64 1453941846, .slice uar 3 ucr], .int .i64 0])) (by rw [HLIT.out]; simp only [upv, e4, Nat.reduceBEq, cond_true, cond_false]) (by rw [HG.out]; exact j4.out) hB.out (by rw [HG.out]; exact fun _ _ h => h) (by rw [HG.out]; exact ⟨fun h => absurd h (by decide), fun _ => ⟨uar, ucr, nnr, rfl, hr⟩, fun h => absurd h (by decide), fun h4 h5 => absurd rfl h5⟩))
        · intro bf ac wv hfb haf hJ K' hK
          obtain ⟨vs, rfl, ja, hB, j4⟩ := hJ
          replace hK := Lib.hid hK
          simp [Region.binds] at haf
          rw [HG.out] at j4
          have e5 := (j4 5 (by simp [haf])).2.1 rfl
          replace j4 := Lib.hid (And.intro ja j4)
          replace hB := Lib.hid hB
          clear ja haf
          obtain ⟨uar, ucr, nnr, e5, hr⟩ := e5
          rw [HLIT.out]
          go_simp
          exact hK.out _ _ (NS.next (wv := wv) (vs := vs) 6 (by omega) (fun q h => absurd h (by simp)) (x := (.agg #[.int .i64 4, .int .i64 3, .int .i64 2, .int .i64 49659217, .int .i64 1453941846, .slice uar 3 ucr])) (by rw [HLIT.out]; simp only [upv, e5, Nat.reduceBEq, cond_true, cond_false]) (by rw [HG.out]; exact j4.out) hB.out (by rw [HG.out]; exact fun _ _ h => h) (by rw [HG.out]; exact ⟨fun h => absurd h (by decide), fun h => absurd h (by decide), fun _ => ⟨uar, ucr, nnr, rfl, hr⟩, fun h4 h5 h6 => absurd rfl h6⟩))
        · intro bf ac wv hfb haf hJ K' hK
          obtain ⟨vs, rfl, ja, hB, j4⟩ := hJ
          replace hK := Lib.hid hK
          simp [Region.binds] at haf
          rw [HG.out] at j4
          have e5 := (j4 5 (by simp [haf])).2.1 rfl
          replace j4 := Lib.hid (And.intro ja j4)
          replace hB := Lib.hid hB
          clear ja haf
          obtain ⟨uar, ucr, nnr, e5, hr⟩ := e5
          rw [HLIT.out]
          go_simp
          exact hK.out _ _ (NS.next (wv := wv) (vs := vs) 7 (by omega) (fun q h => absurd h (by simp)) (x := .int .i64 0) (by rw [HLIT.out]; simp only [upv, e5, Nat.reduceBEq, cond_true, cond_false]) (by rw [HG.out]; exact j4.out) hB.out (by rw [HG.out]; exact fun _ _ h => h) (by rw [HG.out]; exact ⟨fun h => absurd h (by decide), fun h => absurd h (by decide), fun h => absurd h (by decide), fun _ _ _ _ => E7.out.symm⟩))
        · intro bf ac wv hfb haf hJ K' hK
          obtain ⟨vs, rfl, ja, hB, j4⟩ := hJ
          replace hK := Lib.hid hK
          simp [Region.binds] at haf
          rw [HG.out] at j4
          have e6 := (j4 6 (by simp [haf])).2.2.1 rfl
          rw [hfb] at j4 hB
          try rw [hfb] at e6
          have HA := Lib.hid (show ∀ q, (fun p q => (p == 8 && q == 0) || (p == 8 && q == 3) || (p == 8 && q == 4) || (p == 8 && q == 5) || (p == 8 && q == 6) || (p == 8 && q == 1) || (p == 8 && q == 2)) 8 q = true → bf q = true from fun q hi => by
            obtain rfl | rfl | rfl | rfl | rfl | rfl | rfl : q = 0 ∨ q = 3 ∨ q = 4 ∨ q = 5 ∨ q = 6 ∨ q = 1 ∨ q = 2 := by simpa [or_assoc] using hi
            all_goals simp [haf])
          have hM := Lib.hid (hB.1 rfl)
          replace j4 := Lib.hid j4
          have HE := Lib.hid (And.intro ja HA.out)
          clear ja haf hB HA
          obtain ⟨uar, ucr, nnr, e6, hr⟩ := e6
          replace hr := Lib.hid (hr rfl)
          have HZ := Lib.hid (H100.out.step hM.out)
          have HZC := Lib.hid (cs_of_box HZ.out)
          have x0 := HZC.out.c 0 rfl
          have y0 := HZC.out.f 0 (by simp)
          have x1 := HZC.out.c 1 rfl
          have y1 := HZC.out.f 1 (by simp)
          have x2 := HZC.out.c 2 rfl
          have y2 := HZC.out.f 2 (by simp)
          have x3 := HZC.out.c 3 rfl
          have y3 := HZC.out.f 3 (by simp)
          have x4 := HZC.out.c 4 rfl
          have y4 := HZC.out.f 4 (by simp)
          have x5 := HZC.out.c 5 rfl
          have y5 := HZC.out.f 5 (by simp)
          have xz := HZC.out.2.2
          rw [HLIT.out]
          go_simp
          have p1 : BxO 0 ⟨4, 3, 2, 49659217, 1453941846⟩ [[1, 2], [], [5]] 3 k0 (putS wv k0 ⟨4, 3, 2, 49659217, 1453941846⟩ (.slice uar 3 ucr)) := ⟨uar, ucr, nnr, box_putS HZ.out rfl ⟨4, 3, 2, 49659217, 1453941846⟩ _, hr.out.putS (Nat.zero_le _) (tyB_box HZ.out) ⟨4, 3, 2, 49659217, 1453941846⟩ _⟩
          have p3 : Below U7.heap.size U7 (putS wv k0 ⟨4, 3, 2, 49659217, 1453941846⟩ (.slice uar 3 ucr)) := (HB7.out.trans (hM.out.mono HB7.out.size)).trans (putS_below _ HK0.out ⟨4, 3, 2, 49659217, 1453941846⟩ _)
          exact hK.out _ _ (NS.put (vs := vs) (w' := putS wv k0 ⟨4, 3, 2, 49659217, 1453941846⟩ (.slice uar 3 ucr)) (by rw [HLIT.out]; simp only [e6]) HE.out ⟨fun e => (by cases e), fun _ => ⟨p3, p1⟩⟩ (fun j hj hb => by
            rw [HG.out]
            have q := j4.out j hb
            exact ⟨fun h => (q.1 h).put _, fun h => (q.2.1 h).put _, fun h => (q.2.2.1 h).put _, q.2.2.2⟩) (fun v => by rw [HG.out]; exact ⟨fun h => absurd h (by decide), fun h => absurd h (by decide), fun h => absurd h (by decide), fun h4 h5 h6 h8 => absurd rfl h8⟩))
        · intro bf ac wv hfb haf hJ K' hK
          obtain ⟨vs, rfl, ja, hB, j4⟩ := hJ
          replace hK := Lib.hid hK
          simp [Region.binds] at haf
          rw [HG.out] at j4
          have e7 := ((j4 7 (by simp [haf])).2.2.2 (by decide) (by decide) (by decide) (by decide)).trans E7.out
          replace j4 := Lib.hid (And.intro ja j4)
          replace hB := Lib.hid hB
          clear ja haf
          rw [HLIT.out]
          go_simp
          exact hK.out _ _ (NS.next (wv := wv) (vs := vs) 9 (by omega) (fun q h => absurd h (by simp)) (x := .int .i64 0) (by rw [HLIT.out]; simp only [upv, e7, Nat.reduceBEq, cond_true, cond_false]) (by rw [HG.out]; exact j4.out) hB.out (by rw [HG.out]; exact fun _ _ h => h) (by rw [HG.out]; exact ⟨fun h => absurd h (by decide), fun h => absurd h (by decide), fun h => absurd h (by decide), fun _ _ _ _ => E9.out.symm⟩))
      · intro bf ac wv hall hJ
        obtain ⟨vs, rfl, -, hB, j4⟩ := hJ
        rw [HG.out] at j4
        rw [hall 8 (by decide)] at hB j4
        have hM := Lib.hid (hB.2 rfl)
        clear hB
        obtain ⟨h77, hbx⟩ := hM.out
        have e9 := ((j4 9 (hall 9 (by decide))).2.2.2 (by decide) (by decide) (by decide) (by decide)).trans E9.out
        clear HB7
        have HBX := Lib.hid hbx
        have HB7 := Lib.hid h77
        clear hM j4 hall hbx h77
        rw [HLIT.out]
        dsimp only
        rw [e9]
        clear e9 HLIT HG
        generalize vs = us99
        clear H100
        clear H101
        clear H102
        obtain ⟨U10, hU10⟩ : ∃ z9, wv = z9 := ⟨_, rfl⟩
        rw [hU10] at HBX HB7 ⊢
        clear hU10
        have H103 := Lib.hid (H68.out.step HB7.out)
        have H104 := Lib.hid (H69.out.step HB7.out)
        have H105 := Lib.hid (H70.out.step HB7.out)
        have H106 := Lib.hid (H71.out.step HB7.out)
        have H107 := Lib.hid (H72.out.step HB7.out)
        have H108 := Lib.hid (H73.out.step HB7.out)
        have H109 := Lib.hid (H74.out.step HB7.out)
        have H110 := Lib.hid (H75.out.step HB7.out)
        have H111 := Lib.hid (H67.out.step HB7.out)
        have H112 := Lib.hid (keep2 HB7.out H76.out)
        obtain ⟨ra10, rc10, nr10, hbo10, how10⟩ := HBX.out
        have H113 := Lib.hid (hbo10)
        have H114 := Lib.hid (cs_of_box hbo10)
        have H115 := Lib.hid (how10)
        clear hbo10 how10 HBX
        have xk0 := H114.out.c 0 rfl
        have xk1 := H114.out.c 1 rfl
        have xk2 := H114.out.c 2 rfl
        have xk3 := H114.out.c 3 rfl
        have xk4 := H114.out.c 4 rfl
        have xk5 := H114.out.c 5 rfl
        have zk := H114.out.2.2
        go_wp2_with fail
        refine (join_any ⟨4, 3, 2, 49659217, 1453941846⟩ _ [[1, 2], [], [5]] _ H115.out.rows (by simp) (by simp) (by simp) hd_jo1 hd_jd1).mono ?_
        rintro e u6 ⟨u, rfl, hu, b6⟩
        clear xk0 xk1 xk2 xk3 xk4 xk5 zk
        have H116 := Lib.hid (H103.out.step b6)
        clear H103
        have H117 := Lib.hid (H104.out.step b6)
        clear H104
        have H118 := Lib.hid (H105.out.step b6)
        clear H105
        have H119 := Lib.hid (H106.out.step b6)
        clear H106
        have H120 := Lib.hid (H107.out.step b6)
        clear H107
        have H121 := Lib.hid (H108.out.step b6)
        clear H108
        have H122 := Lib.hid (H109.out.step b6)
        clear H109
        have H123 := Lib.hid (H110.out.step b6)
        clear H110
        have H124 := Lib.hid (H111.out.step b6)
        clear H111
        have H125 := Lib.hid (H113.out.step b6)
        clear H113
        have H126 := Lib.hid (H114.out.step b6)
        clear H114
        have H127 := Lib.hid (H115.out.step b6)
        clear H115
        have H128 := Lib.hid (keep2 b6 H112.out)
        clear H112
        clear b6
        clear hu
        have yp3 : u6.cell? ⟨b, off + 3, none⟩ = some (.int .i64 1) := H117.out.c3
        have yp4 : u6.cell? ⟨b, off + 3 + 1, none⟩ = some (.slice (q 2) 2 (r 2)) := H117.out.c4
        have yp5 : u6.cell? ⟨b, off + 3 + 2, none⟩ = some (.slice (q 3) 2 (r 3)) := H117.out.c5
        have ypz : b < u6.heap.size := H117.out.lt
        have hx9 := Cs.new u6 u6.heap.size #[.int .i64 1, .slice (q 2) 2 (r 2), .slice (q 3) 2 (r 3)] 29 rfl
        have xo1 := hx9.f 1 (by simp)
        have xo2 := hx9.2.2
        clear hx9
        have H129 := Lib.hid (Cs.newB H128.out (u6.heap.size) #[.int .i64 1, .slice (some ⟨u6.heap.size + 1, 0, none⟩) 2 2, .slice (q 3) 2 (r 3)] 29 (by simp))
        have H130 := Lib.hid (H116.out.step (al _ (.cells #[.int .i64 1, .slice (some ⟨u6.heap.size + 1, 0, none⟩) 2 2, .slice (q 3) 2 (r 3)] 29)))
        clear H116
        have H131 := Lib.hid (H117.out.step (al _ (.cells #[.int .i64 1, .slice (some ⟨u6.heap.size + 1, 0, none⟩) 2 2, .slice (q 3) 2 (r 3)] 29)))
        clear H117
        have H132 := Lib.hid (H118.out.step (al _ (.cells #[.int .i64 1, .slice (some ⟨u6.heap.size + 1, 0, none⟩) 2 2, .slice (q 3) 2 (r 3)] 29)))
        clear H118
        have H133 := Lib.hid (H119.out.step (al _ (.cells #[.int .i64 1, .slice (some ⟨u6.heap.size + 1, 0, none⟩) 2 2, .slice (q 3) 2 (r 3)] 29)))
        clear H119
        have H134 := Lib.hid (H120.out.step (al _ (.cells #[.int .i64 1, .slice (some ⟨u6.heap.size + 1, 0, none⟩) 2 2, .slice (q 3) 2 (r 3)] 29)))
        clear H120
        have H135 := Lib.hid (H121.out.step (al _ (.cells #[.int .i64 1, .slice (some ⟨u6.heap.size + 1, 0, none⟩) 2 2, .slice (q 3) 2 (r 3)] 29)))
        clear H121
        have H136 := Lib.hid (H122.out.step (al _ (.cells #[.int .i64 1, .slice (some ⟨u6.heap.size + 1, 0, none⟩) 2 2, .slice (q 3) 2 (r 3)] 29)))
        clear H122
        have H137 := Lib.hid (H123.out.step (al _ (.cells #[.int .i64 1, .slice (some ⟨u6.heap.size + 1, 0, none⟩) 2 2, .slice (q 3) 2 (r 3)] 29)))
        clear H123
        have H138 := Lib.hid (H124.out.step (al _ (.cells #[.int .i64 1, .slice (some ⟨u6.heap.size + 1, 0, none⟩) 2 2, .slice (q 3) 2 (r 3)] 29)))
        clear H124
        have H139 := Lib.hid (H125.out.step (al _ (.cells #[.int .i64 1, .slice (some ⟨u6.heap.size + 1, 0, none⟩) 2 2, .slice (q 3) 2 (r 3)] 29)))
        clear H125
        have H140 := Lib.hid (H126.out.step (al _ (.cells #[.int .i64 1, .slice (some ⟨u6.heap.size + 1, 0, none⟩) 2 2, .slice (q 3) 2 (r 3)] 29)))
        clear H126
        have H141 := Lib.hid (H127.out.step (al _ (.cells #[.int .i64 1, .slice (some ⟨u6.heap.size + 1, 0, none⟩) 2 2, .slice (q 3) 2 (r 3)] 29)))
        clear H127
        have H142 := Lib.hid (keep2 (al _ (.cells #[.int .i64 1, .slice (some ⟨u6.heap.size + 1, 0, none⟩) 2 2, .slice (q 3) 2 (r 3)] 29)) H128.out)
        clear H128
        have H144 := Lib.hid (Cs.newB H142.out (u6.heap.size + 1) #[.int .i64 3, .int .i64 5] 3 (by simp))
        have H145 := Lib.hid (H130.out.step (al _ (.cells #[.int .i64 3, .int .i64 5] 3)))
        clear H130
        have H146 := Lib.hid (H131.out.step (al _ (.cells #[.int .i64 3, .int .i64 5] 3)))
        clear H131
        have H147 := Lib.hid (H132.out.step (al _ (.cells #[.int .i64 3, .int .i64 5] 3)))
        clear H132
        have H148 := Lib.hid (H133.out.step (al _ (.cells #[.int .i64 3, .int .i64 5] 3)))
        clear H133
        have H149 := Lib.hid (H134.out.step (al _ (.cells #[.int .i64 3, .int .i64 5] 3)))
        clear H134
        have H150 := Lib.hid (H135.out.step (al _ (.cells #[.int .i64 3, .int .i64 5] 3)))
        clear H135
        have H151 := Lib.hid (H136.out.step (al _ (.cells #[.int .i64 3, .int .i64 5] 3)))
        clear H136
        have H152 := Lib.hid (H137.out.step (al _ (.cells #[.int .i64 3, .int .i64 5] 3)))
        clear H137
        have H153 := Lib.hid (H138.out.step (al _ (.cells #[.int .i64 3, .int .i64 5] 3)))
        clear H138
        have H154 := Lib.hid (H139.out.step (al _ (.cells #[.int .i64 3, .int .i64 5] 3)))
        clear H139
        have H155 := Lib.hid (H140.out.step (al _ (.cells #[.int .i64 3, .int .i64 5] 3)))
        clear H140
        have H156 := Lib.hid (H141.out.step (al _ (.cells #[.int .i64 3, .int .i64 5] 3)))
        clear H141
        have H157 := Lib.hid (H129.out.step (al _ (.cells #[.int .i64 3, .int .i64 5] 3)))
        clear H129
        have H158 := Lib.hid (keep2 (al _ (.cells #[.int .i64 3, .int .i64 5] 3)) H142.out)
        clear H142
        have xk0 := H155.out.c 0 rfl
        have xk1 := H155.out.c 1 rfl
        have xk2 := H155.out.c 2 rfl
        have xk3 := H155.out.c 3 rfl
        have xk4 := H155.out.c 4 rfl
        have xk5 := H155.out.c 5 rfl
        have zk := H155.out.2.2
        have xx0 := H157.out.c 0 rfl
        have xx1 := H157.out.c 1 rfl
        have xx2 := H157.out.c 2 rfl
        have zx := H157.out.2.2
        go_wp2_with fail
        refine (add_any ⟨4, 3, 2, 49659217, 1453941846⟩ 1 _ [[1, 2], [], [5]] _ [3, 5] _ [641105346, 1400794521] _ H156.out.rows (ints_lit _ [3, 5] #[.int .i64 3, .int .i64 5] 3 rfl (by simp) 2 rfl (u6.heap.size + 1) (by simp)) H146.out.p1 (by simp) (by simp) (by simp) hd_ad4 hd_al4).mono ?_
        rintro e u7 ⟨u, nq, rfl, -, hu, b7⟩
        clear yp3 yp4 yp5 ypz xo1 xo2 xk0 xk1 xk2 xk3 xk4 xk5 zk xx0 xx1 xx2 zx
        have H159 := Lib.hid (H145.out.step b7)
        clear H145
        have H160 := Lib.hid (H146.out.step b7)
        clear H146
        have H161 := Lib.hid (H147.out.step b7)
        clear H147
        have H162 := Lib.hid (H148.out.step b7)
        clear H148
        have H163 := Lib.hid (H149.out.step b7)
        clear H149
        have H164 := Lib.hid (H150.out.step b7)
        clear H150
        have H165 := Lib.hid (H151.out.step b7)
        clear H151
        have H166 := Lib.hid (H152.out.step b7)
        clear H152
        have H167 := Lib.hid (H153.out.step b7)
        clear H153
        have H168 := Lib.hid (H154.out.step b7)
        clear H154
        have H169 := Lib.hid (H155.out.step b7)
        clear H155
        have H170 := Lib.hid (H156.out.step b7)
        clear H156
        have H171 := Lib.hid (H157.out.step b7)
        clear H157
        have H172 := Lib.hid (H144.out.step b7)
        clear H144
        have H173 := Lib.hid (keep2 b7 H158.out)
        clear H158
        clear b7
        obtain ⟨rad, rcd, rfl⟩ : ∃ (a : Option Addr) (c : Nat), u = .slice a 3 c := by
          obtain ⟨a, c, e, -⟩ := hu
          exact ⟨a, c, e⟩
        clear hu
        have H174 := Lib.hid (Cs.newB H173.out (u7.heap.size) #[.int .i64 4, .int .i64 3, .int .i64 2, .int .i64 49659217, .int .i64 1453941846, .slice rad 3 rcd] 27 (by simp))
        have H175 := Lib.hid (H159.out.step (al _ (.cells #[.int .i64 4, .int .i64 3, .int .i64 2, .int .i64 49659217, .int .i64 1453941846, .slice rad 3 rcd] 27)))
        clear H159
        have H176 := Lib.hid (H160.out.step (al _ (.cells #[.int .i64 4, .int .i64 3, .int .i64 2, .int .i64 49659217, .int .i64 1453941846, .slice rad 3 rcd] 27)))
        clear H160
        have H177 := Lib.hid (H161.out.step (al _ (.cells #[.int .i64 4, .int .i64 3, .int .i64 2, .int .i64 49659217, .int .i64 1453941846, .slice rad 3 rcd] 27)))
        clear H161
        have H178 := Lib.hid (H162.out.step (al _ (.cells #[.int .i64 4, .int .i64 3, .int .i64 2, .int .i64 49659217, .int .i64 1453941846, .slice rad 3 rcd] 27)))
        clear H162
        have H179 := Lib.hid (H163.out.step (al _ (.cells #[.int .i64 4, .int .i64 3, .int .i64 2, .int .i64 49659217, .int .i64 1453941846, .slice rad 3 rcd] 27)))
        clear H163
        have H180 := Lib.hid (H164.out.step (al _ (.cells #[.int .i64 4, .int .i64 3, .int .i64 2, .int .i64 49659217, .int .i64 1453941846, .slice rad 3 rcd] 27)))
        clear H164
        have H181 := Lib.hid (H165.out.step (al _ (.cells #[.int .i64 4, .int .i64 3, .int .i64 2, .int .i64 49659217, .int .i64 1453941846, .slice rad 3 rcd] 27)))
        clear H165
        have H182 := Lib.hid (H166.out.step (al _ (.cells #[.int .i64 4, .int .i64 3, .int .i64 2, .int .i64 49659217, .int .i64 1453941846, .slice rad 3 rcd] 27)))
        clear H166
        have H183 := Lib.hid (H167.out.step (al _ (.cells #[.int .i64 4, .int .i64 3, .int .i64 2, .int .i64 49659217, .int .i64 1453941846, .slice rad 3 rcd] 27)))
        clear H167
        have H184 := Lib.hid (H168.out.step (al _ (.cells #[.int .i64 4, .int .i64 3, .int .i64 2, .int .i64 49659217, .int .i64 1453941846, .slice rad 3 rcd] 27)))
        clear H168
        have H185 := Lib.hid (H169.out.step (al _ (.cells #[.int .i64 4, .int .i64 3, .int .i64 2, .int .i64 49659217, .int .i64 1453941846, .slice rad 3 rcd] 27)))
        clear H169
        have H186 := Lib.hid (H170.out.step (al _ (.cells #[.int .i64 4, .int .i64 3, .int .i64 2, .int .i64 49659217, .int .i64 1453941846, .slice rad 3 rcd] 27)))
        clear H170
        have H187 := Lib.hid (H171.out.step (al _ (.cells #[.int .i64 4, .int .i64 3, .int .i64 2, .int .i64 49659217, .int .i64 1453941846, .slice rad 3 rcd] 27)))
        clear H171
        have H188 := Lib.hid (H172.out.step (al _ (.cells #[.int .i64 4, .int .i64 3, .int .i64 2, .int .i64 49659217, .int .i64 1453941846, .slice rad 3 rcd] 27)))
        clear H172
        have H189 := Lib.hid (keep2 (al _ (.cells #[.int .i64 4, .int .i64 3, .int .i64 2, .int .i64 49659217, .int .i64 1453941846, .slice rad 3 rcd] 27)) H173.out)
        clear H173
        have xk0 := H185.out.c 0 rfl
        have xk1 := H185.out.c 1 rfl
        have xk2 := H185.out.c 2 rfl
        have xk3 := H185.out.c 3 rfl
        have xk4 := H185.out.c 4 rfl
        have xk5 := H185.out.c 5 rfl
        have zk := H185.out.2.2
        have yp3 : (u7.alloc (.cells #[.int .i64 4, .int .i64 3, .int .i64 2, .int .i64 49659217, .int .i64 1453941846, .slice rad 3 rcd] 27)).cell? ⟨b, off + 3, none⟩ = some (.int .i64 1) := H176.out.c3
        have yp4 : (u7.alloc (.cells #[.int .i64 4, .int .i64 3, .int .i64 2, .int .i64 49659217, .int .i64 1453941846, .slice rad 3 rcd] 27)).cell? ⟨b, off + 3 + 1, none⟩ = some (.slice (q 2) 2 (r 2)) := H176.out.c4
        have yp5 : (u7.alloc (.cells #[.int .i64 4, .int .i64 3, .int .i64 2, .int .i64 49659217, .int .i64 1453941846, .slice rad 3 rcd] 27)).cell? ⟨b, off + 3 + 2, none⟩ = some (.slice (q 3) 2 (r 3)) := H176.out.c5
        have ypz : b < (u7.alloc (.cells #[.int .i64 4, .int .i64 3, .int .i64 2, .int .i64 49659217, .int .i64 1453941846, .slice rad 3 rcd] 27)).heap.size := H176.out.lt
        go_upto_region 14 with fail
        clear xk0 xk1 xk2 xk3 xk4 xk5 zk yp3 yp4 yp5 ypz
        obtain ⟨U14, hU14⟩ : ∃ z9, (u7.alloc (.cells #[.int .i64 4, .int .i64 3, .int .i64 2, .int .i64 49659217, .int .i64 1453941846, .slice rad 3 rcd] 27)) = z9 := ⟨_, rfl⟩
        rw [hU14] at H175 H176 H177 H178 H179 H180 H181 H182 H183 H184 H185 H186 H187 H188 H174 H189 ⊢
        clear hU14
        obtain ⟨lit, hlit⟩ : ∃ lit : (Nat → Value) → Act, lit = fun vs => { tmps := List.toArray (Value.bool false :: Value.pointer (some { block := u1.heap.size, off := 0 }) :: Value.slice (some { block := b, off := off }) 3 cc :: Value.int IntKind.i64 0 :: Value.pointer (some { block := u3.heap.size, off := 0 }) :: Value.int IntKind.i64 0 :: Value.pointer (some { block := u4.heap.size, off := 0 }) :: Value.int IntKind.i64 31 :: Value.pointer (some { block := u5.heap.size, off := 0 }) :: Value.int IntKind.i64 15 :: Value.pointer (some { block := k0, off := 0 }) :: Value.int IntKind.i64 0 :: Value.int IntKind.i64 0 :: Value.int IntKind.i64 0 :: u :: Value.int IntKind.i64 28 :: Value.pointer (some { block := u6.heap.size, off := 0 }) :: Value.pointer (some { block := u7.heap.size, off := 0 }) :: Value.int IntKind.i64 17 :: vs 8 :: vs 10 :: undef :: undef :: Value.tuple #[Value.agg #[Value.int IntKind.i64 4, Value.int IntKind.i64 3, Value.int IntKind.i64 2, Value.int IntKind.i64 49659217, Value.int IntKind.i64 1453941846], Value.slice (some { block := b, off := off }) 3 cc, Value.int IntKind.i64 0] :: Value.slice (some { block := w.heap.size, off := 0 }) 5 5 :: Value.tuple #[Value.agg #[Value.int IntKind.i64 4, Value.int IntKind.i64 3, Value.int IntKind.i64 2, Value.int IntKind.i64 49659217, Value.int IntKind.i64 1453941846], Value.slice (some { block := b, off := off }) 3 cc, Value.int IntKind.i64 0] :: Value.agg #[Value.int IntKind.i64 4, Value.int IntKind.i64 3, Value.int IntKind.i64 2, Value.int IntKind.i64 49659217, Value.int IntKind.i64 1453941846] :: Value.slice (some { block := b, off := off }) 3 cc :: Value.int IntKind.i64 0 :: Value.int IntKind.i64 0 :: Value.bool false :: Value.bool false :: Value.pointer (some { block := u1.heap.size, off := 1 }) :: Value.int IntKind.i64 3 :: Value.bool false :: Value.bool false :: Value.bool false :: Value.slice (some { block := b, off := off }) 3 cc :: Value.int IntKind.i64 3 :: Value.bool false :: Value.bool false :: Value.bool false :: Value.slice (some { block := b, off := off }) 3 cc :: Value.pointer (some { block := b, off := off + 6 }) :: Value.pointer (some { block := b, off := off + 6 + 1 }) :: Value.slice (q 4) 1 (r 4) :: Value.slice (some { block := u1.heap.size + 1, off := 0 }) 1 1 :: Value.bool true :: Value.bool false :: Value.bool false :: Value.bool false :: Value.slice (some { block := b, off := off }) 3 cc :: Value.pointer (some { block := b, off := off + 6 }) :: Value.pointer (some { block := b, off := off + 6 + 2 }) :: Value.slice (some { block := pb, off := po }) 2 (r 5) :: Value.int IntKind.i64 2 :: Value.bool false :: Value.bool false :: Value.bool false :: Value.slice (some { block := b, off := off }) 3 cc :: Value.pointer (some { block := b, off := off + 6 }) :: Value.pointer (some { block := b, off := off + 6 + 2 }) :: Value.slice (some { block := pb, off := po }) 2 (r 5) :: Value.pointer (some { block := pb, off := po }) :: Value.int IntKind.i64 (-1) :: Value.bool false :: Value.bool false :: Value.tuple #[Value.agg #[Value.int IntKind.i64 4, Value.int IntKind.i64 3, Value.int IntKind.i64 2, Value.int IntKind.i64 49659217, Value.int IntKind.i64 1453941846, Value.slice sa 3 sc], Value.int IntKind.i64 0] :: Value.agg #[Value.int IntKind.i64 4, Value.int IntKind.i64 3, Value.int IntKind.i64 2, Value.int IntKind.i64 49659217, Value.int IntKind.i64 1453941846] :: Value.tuple #[Value.agg #[Value.int IntKind.i64 4, Value.int IntKind.i64 3, Value.int IntKind.i64 2, Value.int IntKind.i64 49659217, Value.int IntKind.i64 1453941846, Value.slice sa 3 sc], Value.int IntKind.i64 0] :: Value.agg #[Value.int IntKind.i64 4, Value.int IntKind.i64 3, Value.int IntKind.i64 2, Value.int IntKind.i64 49659217, Value.int IntKind.i64 1453941846, Value.slice sa 3 sc] :: Value.int IntKind.i64 0 :: Value.tuple #[Value.agg #[Value.int IntKind.i64 0, Value.int IntKind.i64 0, Value.int IntKind.i64 0, Value.int IntKind.i64 0, Value.int IntKind.i64 0, Value.slice uba 0 ubc], Value.int IntKind.i64 31] :: Value.agg #[Value.int IntKind.i64 4, Value.int IntKind.i64 3, Value.int IntKind.i64 2, Value.int IntKind.i64 49659217, Value.int IntKind.i64 1453941846] :: Value.tuple #[Value.agg #[Value.int IntKind.i64 0, Value.int IntKind.i64 0, Value.int IntKind.i64 0, Value.int IntKind.i64 0, Value.int IntKind.i64 0, Value.slice uba 0 ubc], Value.int IntKind.i64 31] :: Value.agg #[Value.int IntKind.i64 0, Value.int IntKind.i64 0, Value.int IntKind.i64 0, Value.int IntKind.i64 0, Value.int IntKind.i64 0, Value.slice uba 0 ubc] :: Value.int IntKind.i64 31 :: Value.tuple #[Value.agg #[Value.int IntKind.i64 0, Value.int IntKind.i64 0, Value.int IntKind.i64 0, Value.int IntKind.i64 0, Value.int IntKind.i64 0, Value.slice uca 0 ucc], Value.int IntKind.i64 15] :: Value.agg #[Value.int IntKind.i64 4, Value.int IntKind.i64 3, Value.int IntKind.i64 2, Value.int IntKind.i64 49659217, Value.int IntKind.i64 1453941846] :: Value.tuple #[Value.agg #[Value.int IntKind.i64 0, Value.int IntKind.i64 0, Value.int IntKind.i64 0, Value.int IntKind.i64 0, Value.int IntKind.i64 0, Value.slice uca 0 ucc], Value.int IntKind.i64 15] :: Value.agg #[Value.int IntKind.i64 0, Value.int IntKind.i64 0, Value.int IntKind.i64 0, Value.int IntKind.i64 0, Value.int IntKind.i64 0, Value.slice uca 0 ucc] :: Value.int IntKind.i64 15 :: us8 5 :: us8 0 :: us8 1 :: us8 2 :: us8 3 :: us8 4 :: us8 6 :: us8 7 :: us89 5 :: us89 0 :: us89 1 :: us89 2 :: us89 3 :: us89 4 :: us89 6 :: us89 7 :: us99 5 :: us99 0 :: us99 1 :: us99 2 :: us99 3 :: us99 4 :: us99 6 :: us99 7 :: Value.tuple #[u, Value.int IntKind.i64 28] :: Value.agg #[Value.int IntKind.i64 4, Value.int IntKind.i64 3, Value.int IntKind.i64 2, Value.int IntKind.i64 49659217, Value.int IntKind.i64 1453941846, Value.slice ra10 3 rc10] :: Value.tuple #[u, Value.int IntKind.i64 28] :: u :: Value.int IntKind.i64 28 :: Value.slice (some { block := b, off := off }) 3 cc :: Value.pointer (some { block := b, off := off + 3 }) :: Value.agg #[Value.int IntKind.i64 1, Value.slice (q 2) 2 (r 2), Value.slice (q 3) 2 (r 3)] :: Value.slice (some { block := u6.heap.size + 1, off := 0 }) 2 2 :: Value.pointer (some { block := u6.heap.size, off := 1 }) :: Value.tuple #[Value.agg #[Value.int IntKind.i64 4, Value.int IntKind.i64 3, Value.int IntKind.i64 2, Value.int IntKind.i64 49659217, Value.int IntKind.i64 1453941846, Value.slice rad 3 rcd], Value.int IntKind.i64 17] :: Value.agg #[Value.int IntKind.i64 4, Value.int IntKind.i64 3, Value.int IntKind.i64 2, Value.int IntKind.i64 49659217, Value.int IntKind.i64 1453941846, Value.slice ra10 3 rc10] :: Value.agg #[Value.int IntKind.i64 1, Value.slice (some { block := u6.heap.size + 1, off := 0 }) 2 2, Value.slice (q 3) 2 (r 3)] :: Value.tuple #[Value.agg #[Value.int IntKind.i64 4, Value.int IntKind.i64 3, Value.int IntKind.i64 2, Value.int IntKind.i64 49659217, Value.int IntKind.i64 1453941846, Value.slice rad 3 rcd], Value.int IntKind.i64 17] :: Value.agg #[Value.int IntKind.i64 4, Value.int IntKind.i64 3, Value.int IntKind.i64 2, Value.int IntKind.i64 49659217, Value.int IntKind.i64 1453941846, Value.slice rad 3 rcd] :: Value.int IntKind.i64 17 :: vs 5 :: vs 0 :: vs 1 :: vs 2 :: vs 3 :: vs 4 :: vs 6 :: vs 7 :: undef :: undef :: undef :: undef :: undef :: undef :: undef :: undef :: undef :: undef :: undef :: undef :: undef :: undef :: undef :: undef :: undef :: undef :: undef :: undef :: undef :: undef :: undef :: undef :: undef :: undef :: undef :: undef :: undef :: undef :: undef :: undef :: undef :: undef :: undef :: undef :: undef :: undef :: undef :: undef :: undef :: undef :: undef :: undef :: undef :: undef :: undef :: undef :: undef :: undef :: undef :: undef :: undef :: undef :: undef :: undef :: undef :: undef :: undef :: undef :: undef :: undef :: undef :: []), defers := [] } := ⟨_, rfl⟩
        have HLIT := Lib.hid hlit
        clear hlit
        obtain ⟨val, hval⟩ : ∃ val : List Value, val = [.agg #[.int .i64 4, .int .i64 3, .int .i64 2, .int .i64 49659217, .int .i64 1453941846, .slice ra10 3 rc10], .slice (some ⟨b, off, none⟩) 3 cc, .pointer (some ⟨b, off + 3, none⟩), .agg #[.int .i64 1, .slice (q 2) 2 (r 2), .slice (q 3) 2 (r 3)], undef, undef, undef, .int .i64 0, undef, undef, .int .i64 0] := ⟨_, rfl⟩
        have E0 := Lib.hid (show val.getD 0 undef = .agg #[.int .i64 4, .int .i64 3, .int .i64 2, .int .i64 49659217, .int .i64 1453941846, .slice ra10 3 rc10] by rw [hval]; rfl)
        have E1 := Lib.hid (show val.getD 1 undef = .slice (some ⟨b, off, none⟩) 3 cc by rw [hval]; rfl)
        have E2 := Lib.hid (show val.getD 2 undef = .pointer (some ⟨b, off + 3, none⟩) by rw [hval]; rfl)
        have E3 := Lib.hid (show val.getD 3 undef = .agg #[.int .i64 1, .slice (q 2) 2 (r 2), .slice (q 3) 2 (r 3)] by rw [hval]; rfl)
        have E7 := Lib.hid (show val.getD 7 undef = .int .i64 0 by rw [hval]; rfl)
        have E10 := Lib.hid (show val.getD 10 undef = .int .i64 0 by rw [hval]; rfl)
        clear hval
        obtain ⟨G, hG0⟩ : ∃ G : Bool → Nat → Value → World → Prop, G = (fun bq iq vq ww => (iq = 4 → QoT 0 ⟨4, 3, 2, 49659217, 1453941846⟩ [[1, 2], [3, 4], [5]] 3 0 bq vq ww) ∧ (iq = 5 → QoT 0 ⟨4, 3, 2, 49659217, 1453941846⟩ [[1, 2], [3, 4], [5]] 3 0 bq vq ww) ∧ (iq = 6 → QoA 0 ⟨4, 3, 2, 49659217, 1453941846⟩ [[1, 2], [3, 4], [5]] 3 bq vq ww) ∧ (iq = 8 → QoK U14.heap.size ⟨4, 3, 2, 49659217, 1453941846⟩ [[1, 2], [3, 4], [5]] 3 bq vq ww) ∧ (iq ≠ 4 → iq ≠ 5 → iq ≠ 6 → iq ≠ 8 → iq ≠ 9 → vq = val.getD iq undef)) := ⟨_, rfl⟩
        have HG := Lib.hid hG0
        clear hG0
        refine region_inv (NS lit 9 (fun p q => (p == 9 && q == 0) || (p == 9 && q == 3) || (p == 9 && q == 4) || (p == 9 && q == 5) || (p == 9 && q == 6) || (p == 9 && q == 8) || (p == 9 && q == 1) || (p == 9 && q == 2)) G fun bq wv => (bq = false → Below U14.heap.size U14 wv) ∧ (bq = true → Below U14.heap.size U14 wv)) (by kernel_rfl) (by decide +kernel) ?_ ?_ ?_
        · exact NS.start (fun i => ([undef, undef, undef, undef, undef, undef, undef, undef, undef, undef, undef] : List Value).getD i undef) (by rw [HLIT.out]; rfl) ⟨fun _ => below_drew _ _, fun h => (by cases h)⟩
        · refine ⟨?_, ?_, ?_, ?_, ?_, ?_, ?_, ?_, ?_, ?_, ?_, trivial⟩
          · intro bf ac wv hfb haf hJ K' hK
            obtain ⟨vs, rfl, ja, hB, j4⟩ := hJ
            replace hK := Lib.hid hK
            rw [HG.out] at j4
            have hd : bf 9 = false := by
              cases h : bf 9
              · rfl
              · exact absurd ((ja 9 0 rfl h).symm.trans hfb) (by simp)
            have hM := Lib.hid (hB.1 hd)
            replace j4 := Lib.hid (And.intro ja j4)
            replace hB := Lib.hid hB
            clear ja haf
            have x0 := (H185.out.step hM.out).c 0 rfl
            have x1 := (H185.out.step hM.out).c 1 rfl
            have x2 := (H185.out.step hM.out).c 2 rfl
            have x3 := (H185.out.step hM.out).c 3 rfl
            have x4 := (H185.out.step hM.out).c 4 rfl
            have x5 := (H185.out.step hM.out).c 5 rfl
            have xz := (H185.out.step hM.out).2.2
            rw [HLIT.out]
            go_simp
            exact hK.out _ _ (NS.next (wv := wv) (vs := vs) 0 (by omega) (fun q h => absurd h (by simp)) (x := .agg #[.int .i64 4, .int .i64 3, .int .i64 2, .int .i64 49659217, .int .i64 1453941846, .slice ra10 3 rc10]) (by rw [HLIT.out]; rfl) (by rw [HG.out]; exact j4.out) hB.out (by rw [HG.out]; exact fun _ _ h => h) (by rw [HG.out]; exact ⟨fun h => absurd h (by decide), fun h => absurd h (by decide), fun h => absurd h (by decide), fun h => absurd h (by decide), fun _ _ _ _ _ => E0.out.symm⟩))
          · intro bf ac wv hfb haf hJ K' hK
            obtain ⟨vs, rfl, ja, hB, j4⟩ := hJ
            replace hK := Lib.hid hK
            rw [HG.out] at j4
            replace j4 := Lib.hid (And.intro ja j4)
            replace hB := Lib.hid hB
            clear ja haf
            rw [HLIT.out]
            go_simp
            exact hK.out _ _ (NS.next (wv := wv) (vs := vs) 1 (by omega) (fun q h => absurd h (by simp)) (x := .slice (some ⟨b, off, none⟩) 3 cc) (by rw [HLIT.out]; rfl) (by rw [HG.out]; exact j4.out) hB.out (by rw [HG.out]; exact fun _ _ h => h) (by rw [HG.out]; exact ⟨fun h => absurd h (by decide), fun h => absurd h (by decide), fun h => absurd h (by decide), fun h => absurd h (by decide), fun _ _ _ _ _ => E1.out.symm⟩))
          · intro bf ac wv hfb haf hJ K' hK
            obtain ⟨vs, rfl, ja, hB, j4⟩ := hJ
            replace hK := Lib.hid hK
            simp [Region.binds] at haf
            rw [HG.out] at j4
            have e1 := ((j4 1 (by simp [haf])).2.2.2.2 (by decide) (by decide) (by decide) (by decide) (by decide)).trans E1.out
            replace j4 := Lib.hid (And.intro ja j4)
            replace hB := Lib.hid hB
            clear ja haf
            rw [HLIT.out]
            go_simp
            exact hK.out _ _ (NS.next (wv := wv) (vs := vs) 2 (by omega) (fun q h => absurd h (by simp)) (x := .pointer (some ⟨b, off + 3, none⟩)) (by rw [HLIT.out]; simp only [upv, e1, Nat.reduceBEq, cond_true, cond_false]) (by rw [HG.out]; exact j4.out) hB.out (by rw [HG.out]; exact fun _ _ h => h) (by rw [HG.out]; exact ⟨fun h => absurd h (by decide), fun h => absurd h (by decide), fun h => absurd h (by decide), fun h => absurd h (by decide), fun _ _ _ _ _ => E2.out.symm⟩))
          · intro bf ac wv hfb haf hJ K' hK
            obtain ⟨vs, rfl, ja, hB, j4⟩ := hJ
            replace hK := Lib.hid hK
            simp [Region.binds] at haf
            rw [HG.out] at j4
            have e2 := ((j4 2 (by simp [haf])).2.2.2.2 (by decide) (by decide) (by decide) (by decide) (by decide)).trans E2.out
            have hd : bf 9 = false := by
              cases h : bf 9
              · rfl
              · exact absurd ((ja 9 3 rfl h).symm.trans hfb) (by simp)
            have hM := Lib.hid (hB.1 hd)
            replace j4 := Lib.hid (And.intro ja j4)
            replace hB := Lib.hid hB
            clear ja haf
            have hPP := H176.out.step hM.out
            have yp6 := hPP.c3
            have yp7 : wv.cell? ⟨b, off + 3 + 1, none⟩ = some (.slice (q 2) 2 (r 2)) := hPP.c4
            have yp8 : wv.cell? ⟨b, off + 3 + 2, none⟩ = some (.slice (q 3) 2 (r 3)) := hPP.c5
            have ypz := hPP.lt
            clear hPP
            rw [HLIT.out]
            go_simp
            exact hK.out _ _ (NS.next (wv := wv) (vs := vs) 3 (by omega) (fun q h => absurd h (by simp)) (x := .agg #[.int .i64 1, .slice (q 2) 2 (r 2), .slice (q 3) 2 (r 3)]) (by rw [HLIT.out]; simp only [upv, e2, Nat.reduceBEq, cond_true, cond_false]) (by rw [HG.out]; exact j4.out) hB.out (by rw [HG.out]; exact fun _ _ h => h) (by rw [HG.out]; exact ⟨fun h => absurd h (by decide), fun h => absurd h (by decide), fun h => absurd h (by decide), fun h => absurd h (by decide), fun _ _ _ _ _ => E3.out.symm⟩))
          · intro bf ac wv hfb haf hJ K' hK
            obtain ⟨vs, rfl, ja, hB, j4⟩ := hJ
            replace hK := Lib.hid hK
            simp [Region.binds] at haf
            rw [HG.out] at j4
            have e0 := ((j4 0 (by simp [haf])).2.2.2.2 (by decide) (by decide) (by decide) (by decide) (by decide)).trans E0.out
            have e3 := ((j4 3 (by simp [haf])).2.2.2.2 (by decide) (by decide) (by decide) (by decide) (by decide)).trans E3.out
            have hd : bf 9 = false := by
              cases h : bf 9
              · rfl
              · exact absurd ((ja 9 4 rfl h).symm.trans hfb) (by simp)
            have hM := Lib.hid (hB.1 hd)
            replace j4 := Lib.hid (And.intro ja j4)
            replace hB := Lib.hid hB
            clear ja haf
            rw [HLIT.out]
            go_simp
            go_at_call 15
            refine (add_any ⟨4, 3, 2, 49659217, 1453941846⟩ 1 _ [[1, 2], [], [5]] _ [3, 4] _ [641105346, 1400794521] wv (H186.out.step hM.out).rows ((H176.out.step hM.out).d1) ((H176.out.step hM.out).p1) (by simp) (by simp) (by simp) hd_ad5 hd_al5).mono ?_
            rintro e w4 ⟨u4, nnr, rfl, -, hr, b4⟩
            obtain ⟨uar, ucr, rfl⟩ : ∃ (a : Option Addr) (c : Nat), u4 = .slice a 3 c := by
              obtain ⟨a, c, e, -⟩ := hr
              exact ⟨a, c, e⟩
            exact hK.out _ _ (NS.next (wv := wv) (vs := vs) 4 (by omega) (fun q h => absurd h (by simp)) (x := (.tuple #[.agg #[.int .i64 4, .int .i64 3, .int .i64 2, .int .i64 49659217, .int .i64 1453941846, .slice uar 3 ucr], .int .i64 0])) (by rw [HLIT.out]; simp only [upv, e0, e3, Nat.reduceBEq, cond_true, cond_false]) (by rw [HG.out]; exact j4.out) ⟨fun _ => keep2 b4 hM.out, fun e => absurd (e.symm.trans hd) (by simp)⟩ (by rw [HG.out]; exact fun k hbk h => ⟨fun q => (h.1 q).step b4, fun q => (h.2.1 q).step b4, fun q => (h.2.2.1 q).step b4, fun q => (h.2.2.2.1 q).step b4, h.2.2.2.2⟩) (by rw [HG.out]; exact ⟨fun _ => ⟨uar, ucr, nnr, rfl, fun _ => hr⟩, fun h => absurd h (by decide), fun h => absurd h (by decide), fun h => absurd h (by decide), fun h4 => absurd rfl h4⟩))
          · intro bf ac wv hfb haf hJ K' hK
            obtain ⟨vs, rfl, ja, hB, j4⟩ := hJ
            replace hK := Lib.hid hK
            simp [Region.binds] at haf
            rw [HG.out] at j4
            have e4 := (j4 4 (by simp [haf])).1 rfl
            replace j4 := Lib.hid (And.intro ja j4)
            replace hB := Lib.hid hB
            clear ja haf
            obtain ⟨uar, ucr, nnr, e4, hr⟩ := e4
            rw [HLIT.out]
            go_simp
            exact hK.out _ _ (NS.next (wv := wv) (vs := vs) 5 (by omega) (fun q h => absurd h (by simp)) (x := (.tuple #[.agg #[.int .i64 4, .int .i64 3, .int .i64 2, .int .i64 49659217, .int .i64 1453941846, .slice uar 3 ucr], .int .i64 0])) (by rw [HLIT.out]; simp only [upv, e4, Nat.reduceBEq, cond_true, cond_false]) (by rw [HG.out]; exact j4.out) hB.out (by rw [HG.out]; exact fun _ _ h => h) (by rw [HG.out]; exact ⟨fun h => absurd h (by decide), fun _ => ⟨uar, ucr, nnr, rfl, hr⟩, fun h => absurd h (by decide), fun h => absurd h (by decide), fun h4 h5 => absurd rfl h5⟩))
          · intro bf ac wv hfb haf hJ K' hK
            obtain ⟨vs, rfl, ja, hB, j4⟩ := hJ
            replace hK := Lib.hid hK
            simp [Region.binds] at haf
            rw [HG.out] at j4
            have e5 := (j4 5 (by simp [haf])).2.1 rfl
            replace j4 := Lib.hid (And.intro ja j4)
            replace hB := Lib.hid hB
            clear ja haf
            obtain ⟨uar, ucr, nnr, e5, hr⟩ := e5
            rw [HLIT.out]
            go_simp
            exact hK.out _ _ (NS.next (wv := wv) (vs := vs) 6 (by omega) (fun q h => absurd h (by simp)) (x := (.agg #[.int .i64 4, .int .i64 3, .int .i64 2, .int .i64 49659217, .int .i64 1453941846, .slice uar 3 ucr])) (by rw [HLIT.out]; simp only [upv, e5, Nat.reduceBEq, cond_true, cond_false]) (by rw [HG.out]; exact j4.out) hB.out (by rw [HG.out]; exact fun _ _ h => h) (by rw [HG.out]; exact ⟨fun h => absurd h (by decide), fun h => absurd h (by decide), fun _ => ⟨uar, ucr, nnr, rfl, hr⟩, fun h => absurd h (by decide), fun h4 h5 h6 => absurd rfl h6⟩))
          · intro bf ac wv hfb haf hJ K' hK
            obtain ⟨vs, rfl, ja, hB, j4⟩ := hJ
            replace hK := Lib.hid hK
            simp [Region.binds] at haf
            rw [HG.out] at j4
            have e5 := (j4 5 (by simp [haf])).2.1 rfl
            replace j4 := Lib.hid (And.intro ja j4)
            replace hB := Lib.hid hB
            clear ja haf
            obtain ⟨uar, ucr, nnr, e5, hr⟩ := e5
            rw [HLIT.out]
            go_simp
            exact hK.out _ _ (NS.next (wv := wv) (vs := vs) 7 (by omega) (fun q h => absurd h (by simp)) (x := .int .i64 0) (by rw [HLIT.out]; simp only [upv, e5, Nat.reduceBEq, cond_true, cond_false]) (by rw [HG.out]; exact j4.out) hB.out (by rw [HG.out]; exact fun _ _ h => h) (by rw [HG.out]; exact ⟨fun h => absurd h (by decide), fun h => absurd h (by decide), fun h => absurd h (by decide), fun h => absurd h (by decide), fun _ _ _ _ _ => E7.out.symm⟩))
          · intro bf ac wv hfb haf hJ K' hK
            obtain ⟨vs, rfl, ja, hB, j4⟩ := hJ
            replace hK := Lib.hid hK
            rw [HG.out] at j4
            have hd : bf 9 = false := by
              cases h : bf 9
              · rfl
              · exact absurd ((ja 9 8 rfl h).symm.trans hfb) (by simp)
            have hM := Lib.hid (hB.1 hd)
            replace j4 := Lib.hid (And.intro ja j4)
            replace hB := Lib.hid hB
            clear ja haf
            rw [HLIT.out]
            go_simp
            have b4 := al wv (.cells ZB6 27)
            exact hK.out _ _ (NS.next (wv := wv) (vs := vs) 8 (by omega) (fun q h => absurd h (by simp)) (x := (.pointer (some ⟨wv.heap.size, 0, none⟩))) (by rw [HLIT.out]; rfl) (by rw [HG.out]; exact j4.out) ⟨fun _ => keep2 b4 hM.out, fun e => absurd (e.symm.trans hd) (by simp)⟩ (by rw [HG.out]; exact fun k hbk h => ⟨fun q => (h.1 q).step b4, fun q => (h.2.1 q).step b4, fun q => (h.2.2.1 q).step b4, fun q => (h.2.2.2.1 q).step b4, h.2.2.2.2⟩) (by rw [HG.out]; exact ⟨fun h => absurd h (by decide), fun h => absurd h (by decide), fun h => absurd h (by decide), fun _ => ⟨wv.heap.size, rfl, hM.out.size, fun _ => BoxN.new wv ZB6 27, fun e => absurd (e.symm.trans hd) (by simp)⟩, fun h4 h5 h6 h8 => absurd rfl h8⟩))
          · intro bf ac wv hfb haf hJ K' hK
            obtain ⟨vs, rfl, ja, hB, j4⟩ := hJ
            replace hK := Lib.hid hK
            simp [Region.binds] at haf
            rw [HG.out] at j4
            have e6 := (j4 6 (by simp [haf])).2.2.1 rfl
            have e8 := (j4 8 (by simp [haf])).2.2.2.1 rfl
            rw [hfb] at j4 hB
            try rw [hfb] at e6
            try rw [hfb] at e8
            have HA := Lib.hid (show ∀ q, (fun p q => (p == 9 && q == 0) || (p == 9 && q == 3) || (p == 9 && q == 4) || (p == 9 && q == 5) || (p == 9 && q == 6) || (p == 9 && q == 8) || (p == 9 && q == 1) || (p == 9 && q == 2)) 9 q = true → bf q = true from fun q hi => by
              obtain rfl | rfl | rfl | rfl | rfl | rfl | rfl | rfl : q = 0 ∨ q = 3 ∨ q = 4 ∨ q = 5 ∨ q = 6 ∨ q = 8 ∨ q = 1 ∨ q = 2 := by simpa [or_assoc] using hi
              all_goals simp [haf])
            have hM := Lib.hid (hB.1 rfl)
            replace j4 := Lib.hid j4
            have HE := Lib.hid (And.intro ja HA.out)
            clear ja haf hB HA
            obtain ⟨k, e8, hk, hz, -⟩ := e8
            replace hz := hz rfl
            obtain ⟨uar, ucr, nnr, e6, hr⟩ := e6
            replace hr := Lib.hid (hr rfl)
            replace hk := Lib.hid hk
            have HZ := Lib.hid hz
            have HZC := Lib.hid (cs_of_box hz)
            have x0 := HZC.out.c 0 rfl
            have y0 := HZC.out.f 0 (by simp [ZB6])
            have x1 := HZC.out.c 1 rfl
            have y1 := HZC.out.f 1 (by simp [ZB6])
            have x2 := HZC.out.c 2 rfl
            have y2 := HZC.out.f 2 (by simp [ZB6])
            have x3 := HZC.out.c 3 rfl
            have y3 := HZC.out.f 3 (by simp [ZB6])
            have x4 := HZC.out.c 4 rfl
            have y4 := HZC.out.f 4 (by simp [ZB6])
            have x5 := HZC.out.c 5 rfl
            have y5 := HZC.out.f 5 (by simp [ZB6])
            have xz := HZC.out.2.2
            clear hz
            rw [HLIT.out]
            go_simp
            have p1 : BxO 0 ⟨4, 3, 2, 49659217, 1453941846⟩ [[1, 2], [3, 4], [5]] 3 k (putS wv k ⟨4, 3, 2, 49659217, 1453941846⟩ (.slice uar 3 ucr)) := ⟨uar, ucr, nnr, box_putS HZ.out rfl ⟨4, 3, 2, 49659217, 1453941846⟩ _, hr.out.putS (Nat.zero_le _) (tyB_box HZ.out) ⟨4, 3, 2, 49659217, 1453941846⟩ _⟩
            have p3 : Below U14.heap.size wv (putS wv k ⟨4, 3, 2, 49659217, 1453941846⟩ (.slice uar 3 ucr)) := putS_below _ hk.out ⟨4, 3, 2, 49659217, 1453941846⟩ _
            exact hK.out _ _ (NS.put (vs := vs) (w' := putS wv k ⟨4, 3, 2, 49659217, 1453941846⟩ (.slice uar 3 ucr)) (by rw [HLIT.out]; simp only [e8, e6]) HE.out ⟨fun e => (by cases e), fun _ => hM.out.trans p3⟩ (fun j hj hb => by
              rw [HG.out]
              have q := j4.out j hb
              exact ⟨fun h => (q.1 h).put _, fun h => (q.2.1 h).put _, fun h => (q.2.2.1 h).put _, fun h => by
                subst h
                exact ⟨k, e8, hk.out, fun e => (by cases e), fun _ => p1⟩, q.2.2.2.2⟩) (fun v => by rw [HG.out]; exact ⟨fun h => absurd h (by decide), fun h => absurd h (by decide), fun h => absurd h (by decide), fun h => absurd h (by decide), fun h4 h5 h6 h8 h9 => absurd rfl h9⟩))
          · intro bf ac wv hfb haf hJ K' hK
            obtain ⟨vs, rfl, ja, hB, j4⟩ := hJ
            replace hK := Lib.hid hK
            simp [Region.binds] at haf
            rw [HG.out] at j4
            have e7 := ((j4 7 (by simp [haf])).2.2.2.2 (by decide) (by decide) (by decide) (by decide) (by decide)).trans E7.out
            replace j4 := Lib.hid (And.intro ja j4)
            replace hB := Lib.hid hB
            clear ja haf
            rw [HLIT.out]
            go_simp
            exact hK.out _ _ (NS.next (wv := wv) (vs := vs) 10 (by omega) (fun q h => absurd h (by simp)) (x := .int .i64 0) (by rw [HLIT.out]; simp only [upv, e7, Nat.reduceBEq, cond_true, cond_false]) (by rw [HG.out]; exact j4.out) hB.out (by rw [HG.out]; exact fun _ _ h => h) (by rw [HG.out]; exact ⟨fun h => absurd h (by decide), fun h => absurd h (by decide), fun h => absurd h (by decide), fun h => absurd h (by decide), fun _ _ _ _ _ => E10.out.symm⟩))
        · intro bf ac wv hall hJ
          obtain ⟨vs, rfl, -, hB, j4⟩ := hJ
          rw [HG.out] at j4
          rw [hall 9 (by decide)] at hB j4
          have hM := Lib.hid (hB.2 rfl)
          clear hB
          obtain ⟨k1, e8, hk1, -, hbx⟩ := (j4 8 (hall 8 (by decide))).2.2.2.1 rfl
          replace hbx := hbx rfl
          have e10 := ((j4 10 (hall 10 (by decide))).2.2.2.2 (by decide) (by decide) (by decide) (by decide) (by decide)).trans E10.out
          have HK1 := Lib.hid hk1
          have HBX := Lib.hid hbx
          have HB14 := Lib.hid hM.out
          clear hM j4 hall hk1 hbx
          rw [HLIT.out]
          dsimp only
          rw [e8, e10]
          clear e8 e10 HLIT HG
          generalize vs = us149
          obtain ⟨U15, hU15⟩ : ∃ z9, wv = z9 := ⟨_, rfl⟩
          rw [hU15] at HBX HB14 ⊢
          clear hU15
          clear H184
          clear H174
          clear H187
          have H190 := Lib.hid (H175.out.step HB14.out)
          clear H175
          have H191 := Lib.hid (H176.out.step HB14.out)
          clear H176
          have H192 := Lib.hid (H177.out.step HB14.out)
          clear H177
          have H193 := Lib.hid (H178.out.step HB14.out)
          clear H178
          have H194 := Lib.hid (H179.out.step HB14.out)
          clear H179
          have H195 := Lib.hid (H180.out.step HB14.out)
          clear H180
          have H196 := Lib.hid (H181.out.step HB14.out)
          clear H181
          have H197 := Lib.hid (H182.out.step HB14.out)
          clear H182
          have H198 := Lib.hid (H183.out.step HB14.out)
          clear H183
          have H199 := Lib.hid (H185.out.step HB14.out)
          clear H185
          have H200 := Lib.hid (H186.out.step HB14.out)
          clear H186
          have H201 := Lib.hid (H188.out.step HB14.out)
          clear H188
          have H202 := Lib.hid (keep2 HB14.out H189.out)
          clear H189
          obtain ⟨ra15, rc15, nr15, hbo15, how15⟩ := HBX.out
          have H203 := Lib.hid (cs_of_box hbo15)
          have H204 := Lib.hid (how15)
          clear hbo15 how15 HBX
          have xk10 := H203.out.c 0 rfl
          have xk11 := H203.out.c 1 rfl
          have xk12 := H203.out.c 2 rfl
          have xk13 := H203.out.c 3 rfl
          have xk14 := H203.out.c 4 rfl
          have xk15 := H203.out.c 5 rfl
          have zk1 := H203.out.2.2
          go_wp2_with fail
          refine (join_any ⟨4, 3, 2, 49659217, 1453941846⟩ _ [[1, 2], [3, 4], [5]] _ H204.out.rows (by simp) (by simp) (by simp) hd_jo2 hd_jd2).mono ?_
          rintro e u8 ⟨u, rfl, hu, b8⟩
          clear xk10 xk11 xk12 xk13 xk14 xk15 zk1
          have H205 := Lib.hid (H190.out.step b8)
          clear H190
          have H206 := Lib.hid (H191.out.step b8)
          clear H191
          have H207 := Lib.hid (H192.out.step b8)
          clear H192
          have H208 := Lib.hid (H193.out.step b8)
          clear H193
          have H209 := Lib.hid (H194.out.step b8)
          clear H194
          have H210 := Lib.hid (H195.out.step b8)
          clear H195
          have H211 := Lib.hid (H196.out.step b8)
          clear H196
          have H212 := Lib.hid (H197.out.step b8)
          clear H197
          have H213 := Lib.hid (H198.out.step b8)
          clear H198
          have H214 := Lib.hid (H199.out.step b8)
          clear H199
          have H215 := Lib.hid (H200.out.step b8)
          clear H200
          have H216 := Lib.hid (H201.out.step b8)
          clear H201
          have H217 := Lib.hid (H203.out.step b8)
          clear H203
          have H218 := Lib.hid (H204.out.step b8)
          clear H204
          have H219 := Lib.hid (keep2 b8 H202.out)
          clear H202
          clear b8
          obtain ⟨ja, jc, rfl, -, -⟩ : ∃ (a : Option Addr) (c : Nat), u = .slice a 5 c ∧ True ∧ True := by
            obtain ⟨a, c, e, -⟩ := hu
            exact ⟨a, c, e, trivial, trivial⟩
          have H220 := Lib.hid (hu)
          clear hu
          have xk0 := H214.out.c 0 rfl
          have xk1 := H214.out.c 1 rfl
          have xk2 := H214.out.c 2 rfl
          have xk3 := H214.out.c 3 rfl
          have xk4 := H214.out.c 4 rfl
          have xk5 := H214.out.c 5 rfl
          have zk := H214.out.2.2
          have xm0 := H208.out.c 0 rfl
          have xm1 := H208.out.c 1 rfl
          have xm2 := H208.out.c 2 rfl
          have xm3 := H208.out.c 3 rfl
          have xm4 := H208.out.c 4 rfl
          have zm := H208.out.2.2
          go_upto_region 16 with fail
          clear xk0 xk1 xk2 xk3 xk4 xk5 zk xm0 xm1 xm2 xm3 xm4 zm
          have HTG := Lib.hid (fun (v : Value) (w : World) (h : IntsAt w v [4, 3, 2, 49659217]) => (tag_any 9 v [4, 3, 2, 49659217] w h (by decide) (by decide)).mono (R' := fun e w' => e = .returned (.int .i64 1453941846) ∧ Below w.heap.size w w') fun e w' q => by
            rw [← hd_tg1]
            exact q)
          obtain ⟨lit, hlit⟩ : ∃ lit : (Nat → Value) → Act, lit = fun vs => { tmps := List.toArray (vs 58 :: Value.pointer (some { block := u1.heap.size, off := 0 }) :: Value.slice (some { block := b, off := off }) 3 cc :: Value.int IntKind.i64 0 :: Value.pointer (some { block := u3.heap.size, off := 0 }) :: Value.int IntKind.i64 0 :: Value.pointer (some { block := u4.heap.size, off := 0 }) :: Value.int IntKind.i64 31 :: Value.pointer (some { block := u5.heap.size, off := 0 }) :: Value.int IntKind.i64 15 :: Value.pointer (some { block := k0, off := 0 }) :: Value.int IntKind.i64 0 :: Value.int IntKind.i64 0 :: Value.int IntKind.i64 0 :: u :: Value.int IntKind.i64 28 :: Value.pointer (some { block := u6.heap.size, off := 0 }) :: Value.pointer (some { block := u7.heap.size, off := 0 }) :: Value.int IntKind.i64 17 :: Value.pointer (some { block := k1, off := 0 }) :: Value.int IntKind.i64 0 :: Value.slice ja 5 jc :: Value.int IntKind.i64 0 :: Value.tuple #[Value.agg #[Value.int IntKind.i64 4, Value.int IntKind.i64 3, Value.int IntKind.i64 2, Value.int IntKind.i64 49659217, Value.int IntKind.i64 1453941846], Value.slice (some { block := b, off := off }) 3 cc, Value.int IntKind.i64 0] :: Value.slice (some { block := w.heap.size, off := 0 }) 5 5 :: Value.tuple #[Value.agg #[Value.int IntKind.i64 4, Value.int IntKind.i64 3, Value.int IntKind.i64 2, Value.int IntKind.i64 49659217, Value.int IntKind.i64 1453941846], Value.slice (some { block := b, off := off }) 3 cc, Value.int IntKind.i64 0] :: Value.agg #[Value.int IntKind.i64 4, Value.int IntKind.i64 3, Value.int IntKind.i64 2, Value.int IntKind.i64 49659217, Value.int IntKind.i64 1453941846] :: Value.slice (some { block := b, off := off }) 3 cc :: Value.int IntKind.i64 0 :: Value.int IntKind.i64 0 :: Value.bool false :: Value.bool false :: Value.pointer (some { block := u1.heap.size, off := 1 }) :: Value.int IntKind.i64 3 :: Value.bool false :: Value.bool false :: Value.bool false :: Value.slice (some { block := b, off := off }) 3 cc :: Value.int IntKind.i64 3 :: Value.bool false :: Value.bool false :: Value.bool false :: Value.slice (some { block := b, off := off }) 3 cc :: Value.pointer (some { block := b, off := off + 6 }) :: Value.pointer (some { block := b, off := off + 6 + 1 }) :: Value.slice (q 4) 1 (r 4) :: Value.slice (some { block := u1.heap.size + 1, off := 0 }) 1 1 :: Value.bool true :: Value.bool false :: Value.bool false :: Value.bool false :: Value.slice (some { block := b, off := off }) 3 cc :: Value.pointer (some { block := b, off := off + 6 }) :: Value.pointer (some { block := b, off := off + 6 + 2 }) :: Value.slice (some { block := pb, off := po }) 2 (r 5) :: Value.int IntKind.i64 2 :: Value.bool false :: Value.bool false :: Value.bool false :: Value.slice (some { block := b, off := off }) 3 cc :: Value.pointer (some { block := b, off := off + 6 }) :: Value.pointer (some { block := b, off := off + 6 + 2 }) :: Value.slice (some { block := pb, off := po }) 2 (r 5) :: Value.pointer (some { block := pb, off := po }) :: Value.int IntKind.i64 (-1) :: Value.bool false :: Value.bool false :: Value.tuple #[Value.agg #[Value.int IntKind.i64 4, Value.int IntKind.i64 3, Value.int IntKind.i64 2, Value.int IntKind.i64 49659217, Value.int IntKind.i64 1453941846, Value.slice sa 3 sc], Value.int IntKind.i64 0] :: Value.agg #[Value.int IntKind.i64 4, Value.int IntKind.i64 3, Value.int IntKind.i64 2, Value.int IntKind.i64 49659217, Value.int IntKind.i64 1453941846] :: Value.tuple #[Value.agg #[Value.int IntKind.i64 4, Value.int IntKind.i64 3, Value.int IntKind.i64 2, Value.int IntKind.i64 49659217, Value.int IntKind.i64 1453941846, Value.slice sa 3 sc], Value.int IntKind.i64 0] :: Value.agg #[Value.int IntKind.i64 4, Value.int IntKind.i64 3, Value.int IntKind.i64 2, Value.int IntKind.i64 49659217, Value.int IntKind.i64 1453941846, Value.slice sa 3 sc] :: Value.int IntKind.i64 0 :: Value.tuple #[Value.agg #[Value.int IntKind.i64 0, Value.int IntKind.i64 0, Value.int IntKind.i64 0, Value.int IntKind.i64 0, Value.int IntKind.i64 0, Value.slice uba 0 ubc], Value.int IntKind.i64 31] :: Value.agg #[Value.int IntKind.i64 4, Value.int IntKind.i64 3, Value.int IntKind.i64 2, Value.int IntKind.i64 49659217, Value.int IntKind.i64 1453941846] :: Value.tuple #[Value.agg #[Value.int IntKind.i64 0, Value.int IntKind.i64 0, Value.int IntKind.i64 0, Value.int IntKind.i64 0, Value.int IntKind.i64 0, Value.slice uba 0 ubc], Value.int IntKind.i64 31] :: Value.agg #[Value.int IntKind.i64 0, Value.int IntKind.i64 0, Value.int IntKind.i64 0, Value.int IntKind.i64 0, Value.int IntKind.i64 0, Value.slice uba 0 ubc] :: Value.int IntKind.i64 31 :: Value.tuple #[Value.agg #[Value.int IntKind.i64 0, Value.int IntKind.i64 0, Value.int IntKind.i64 0, Value.int IntKind.i64 0, Value.int IntKind.i64 0, Value.slice uca 0 ucc], Value.int IntKind.i64 15] :: Value.agg #[Value.int IntKind.i64 4, Value.int IntKind.i64 3, Value.int IntKind.i64 2, Value.int IntKind.i64 49659217, Value.int IntKind.i64 1453941846] :: Value.tuple #[Value.agg #[Value.int IntKind.i64 0, Value.int IntKind.i64 0, Value.int IntKind.i64 0, Value.int IntKind.i64 0, Value.int IntKind.i64 0, Value.slice uca 0 ucc], Value.int IntKind.i64 15] :: Value.agg #[Value.int IntKind.i64 0, Value.int IntKind.i64 0, Value.int IntKind.i64 0, Value.int IntKind.i64 0, Value.int IntKind.i64 0, Value.slice uca 0 ucc] :: Value.int IntKind.i64 15 :: us8 5 :: us8 0 :: us8 1 :: us8 2 :: us8 3 :: us8 4 :: us8 6 :: us8 7 :: us89 5 :: us89 0 :: us89 1 :: us89 2 :: us89 3 :: us89 4 :: us89 6 :: us89 7 :: us99 5 :: us99 0 :: us99 1 :: us99 2 :: us99 3 :: us99 4 :: us99 6 :: us99 7 :: Value.tuple #[u, Value.int IntKind.i64 28] :: Value.agg #[Value.int IntKind.i64 4, Value.int IntKind.i64 3, Value.int IntKind.i64 2, Value.int IntKind.i64 49659217, Value.int IntKind.i64 1453941846, Value.slice ra10 3 rc10] :: Value.tuple #[u, Value.int IntKind.i64 28] :: u :: Value.int IntKind.i64 28 :: Value.slice (some { block := b, off := off }) 3 cc :: Value.pointer (some { block := b, off := off + 3 }) :: Value.agg #[Value.int IntKind.i64 1, Value.slice (q 2) 2 (r 2), Value.slice (q 3) 2 (r 3)] :: Value.slice (some { block := u6.heap.size + 1, off := 0 }) 2 2 :: Value.pointer (some { block := u6.heap.size, off := 1 }) :: Value.tuple #[Value.agg #[Value.int IntKind.i64 4, Value.int IntKind.i64 3, Value.int IntKind.i64 2, Value.int IntKind.i64 49659217, Value.int IntKind.i64 1453941846, Value.slice rad 3 rcd], Value.int IntKind.i64 17] :: Value.agg #[Value.int IntKind.i64 4, Value.int IntKind.i64 3, Value.int IntKind.i64 2, Value.int IntKind.i64 49659217, Value.int IntKind.i64 1453941846, Value.slice ra10 3 rc10] :: Value.agg #[Value.int IntKind.i64 1, Value.slice (some { block := u6.heap.size + 1, off := 0 }) 2 2, Value.slice (q 3) 2 (r 3)] :: Value.tuple #[Value.agg #[Value.int IntKind.i64 4, Value.int IntKind.i64 3, Value.int IntKind.i64 2, Value.int IntKind.i64 49659217, Value.int IntKind.i64 1453941846, Value.slice rad 3 rcd], Value.int IntKind.i64 17] :: Value.agg #[Value.int IntKind.i64 4, Value.int IntKind.i64 3, Value.int IntKind.i64 2, Value.int IntKind.i64 49659217, Value.int IntKind.i64 1453941846, Value.slice rad 3 rcd] :: Value.int IntKind.i64 17 :: us149 5 :: us149 0 :: us149 1 :: us149 2 :: us149 3 :: us149 4 :: us149 6 :: us149 7 :: Value.tuple #[Value.slice ja 5 jc, Value.int IntKind.i64 0] :: Value.agg #[Value.int IntKind.i64 4, Value.int IntKind.i64 3, Value.int IntKind.i64 2, Value.int IntKind.i64 49659217, Value.int IntKind.i64 1453941846, Value.slice ra15 3 rc15] :: Value.tuple #[Value.slice ja 5 jc, Value.int IntKind.i64 0] :: Value.slice ja 5 jc :: Value.int IntKind.i64 0 :: vs 0 :: vs 1 :: vs 2 :: vs 3 :: vs 4 :: vs 5 :: vs 6 :: vs 7 :: vs 8 :: vs 9 :: vs 10 :: vs 11 :: vs 12 :: vs 13 :: vs 14 :: vs 15 :: vs 16 :: vs 17 :: vs 18 :: vs 19 :: vs 20 :: vs 21 :: vs 22 :: vs 23 :: vs 24 :: vs 25 :: vs 26 :: vs 27 :: vs 28 :: vs 29 :: vs 30 :: vs 31 :: vs 32 :: vs 33 :: vs 34 :: vs 35 :: vs 36 :: vs 37 :: vs 38 :: vs 39 :: vs 40 :: vs 41 :: vs 42 :: vs 43 :: vs 44 :: vs 45 :: vs 46 :: vs 47 :: vs 48 :: vs 49 :: vs 50 :: vs 51 :: vs 52 :: vs 53 :: vs 54 :: vs 55 :: vs 56 :: vs 57 :: []), defers := [] } := ⟨_, rfl⟩
          have HLIT := Lib.hid hlit
          clear hlit
          obtain ⟨val, hval⟩ : ∃ val : List Value, val = [.int .i64 0, .bool true, .bool true, .int .i64 31, .bool true, .bool true, .bool true, .int .i64 15, .bool true, .bool true, .bool true, .int .i64 0, .bool true, .bool true, .bool true, .int .i64 0, .bool true, .bool true, .bool true, .int .i64 0, .bool true, .bool true, .bool true, .int .i64 28, .bool true, .bool true, .bool true, .agg #[.int .i64 4, .int .i64 3, .int .i64 2, .int .i64 49659217, .int .i64 1453941846, .slice ra10 3 rc10], undef, undef, .bool true, .bool true, .bool true, .int .i64 17, .bool true, .bool true, .bool true, .int .i64 0, .bool true, .bool true, .bool true, .int .i64 0, .bool true, .bool true, .bool true, .slice ja 5 jc, undef, .bool true, .bool true, .bool true, .pointer (some ⟨(u1.heap.size), 4, none⟩), .int .i64 1453941846, .pointer (some ⟨(u1.heap.size), 3, none⟩), .int .i64 49659217, undef, .int .i64 1453941846, .bool true, .bool true, .bool true] := ⟨_, rfl⟩
          have E0 := Lib.hid (show val.getD 0 undef = .int .i64 0 by rw [hval]; rfl)
          have E1 := Lib.hid (show val.getD 1 undef = .bool true by rw [hval]; rfl)
          have E2 := Lib.hid (show val.getD 2 undef = .bool true by rw [hval]; rfl)
          have E3 := Lib.hid (show val.getD 3 undef = .int .i64 31 by rw [hval]; rfl)
          have E4 := Lib.hid (show val.getD 4 undef = .bool true by rw [hval]; rfl)
          have E5 := Lib.hid (show val.getD 5 undef = .bool true by rw [hval]; rfl)
          have E6 := Lib.hid (show val.getD 6 undef = .bool true by rw [hval]; rfl)
          have E7 := Lib.hid (show val.getD 7 undef = .int .i64 15 by rw [hval]; rfl)
          have E8 := Lib.hid (show val.getD 8 undef = .bool true by rw [hval]; rfl)
          have E9 := Lib.hid (show val.getD 9 undef = .bool true by rw [hval]; rfl)
          have E10 := Lib.hid (show val.getD 10 undef = .bool true by rw [hval]; rfl)
          have E11 := Lib.hid (show val.getD 11 undef = .int .i64 0 by rw [hval]; rfl)
          have E12 := Lib.hid (show val.getD 12 undef = .bool true by rw [hval]; rfl)
          have E13 := Lib.hid (show val.getD 13 undef = .bool true by rw [hval]; rfl)
          have E14 := Lib.hid (show val.getD 14 undef = .bool true by rw [hval]; rfl)
          have E15 := Lib.hid (show val.getD 15 undef = .int .i64 0 by rw [hval]; rfl)
          have E16 := Lib.hid (show val.getD 16 undef = .bool true by rw [hval]; rfl)
          have E17 := Lib.hid (show val.getD 17 undef = .bool true by rw [hval]; rfl)
          have E18 := Lib.hid (show val.getD 18 undef = .bool true by rw [hval]; rfl)
          have E19 := Lib.hid (show val.getD 19 undef = .int .i64 0 by rw [hval]; rfl)
          have E20 := Lib.hid (show val.getD 20 undef = .bool true by rw [hval]; rfl)
          have E21 := Lib.hid (show val.getD 21 undef = .bool true by rw [hval]; rfl)
          have E22 := Lib.hid (show val.getD 22 undef = .bool true by rw [hval]; rfl)
          have E23 := Lib.hid (show val.getD 23 undef = .int .i64 28 by rw [hval]; rfl)
          have E24 := Lib.hid (show val.getD 24 undef = .bool true by rw [hval]; rfl)
          have E25 := Lib.hid (show val.getD 25 undef = .bool true by rw [hval]; rfl)
          have E26 := Lib.hid (show val.getD 26 undef = .bool true by rw [hval]; rfl)
          have E27 := Lib.hid (show val.getD 27 undef = .agg #[.int .i64 4, .int .i64 3, .int .i64 2, .int .i64 49659217, .int .i64 1453941846, .slice ra10 3 rc10] by rw [hval]; rfl)
          have E30 := Lib.hid (show val.getD 30 undef = .bool true by rw [hval]; rfl)
          have E31 := Lib.hid (show val.getD 31 undef = .bool true by rw [hval]; rfl)
          have E32 := Lib.hid (show val.getD 32 undef = .bool true by rw [hval]; rfl)
          have E33 := Lib.hid (show val.getD 33 undef = .int .i64 17 by rw [hval]; rfl)
          have E34 := Lib.hid (show val.getD 34 undef = .bool true by rw [hval]; rfl)
          have E35 := Lib.hid (show val.getD 35 undef = .bool true by rw [hval]; rfl)
          have E36 := Lib.hid (show val.getD 36 undef = .bool true by rw [hval]; rfl)
          have E37 := Lib.hid (show val.getD 37 undef = .int .i64 0 by rw [hval]; rfl)
          have E38 := Lib.hid (show val.getD 38 undef = .bool true by rw [hval]; rfl)
          have E39 := Lib.hid (show val.getD 39 undef = .bool true by rw [hval]; rfl)
          have E40 := Lib.hid (show val.getD 40 undef = .bool true by rw [hval]; rfl)
          have E41 := Lib.hid (show val.getD 41 undef = .int .i64 0 by rw [hval]; rfl)
          have E42 := Lib.hid (show val.getD 42 undef = .bool true by rw [hval]; rfl)
          have E43 := Lib.hid (show val.getD 43 undef = .bool true by rw [hval]; rfl)
          have E44 := Lib.hid (show val.getD 44 undef = .bool true by rw [hval]; rfl)
          have E45 := Lib.hid (show val.getD 45 undef = .slice ja 5 jc by rw [hval]; rfl)
          have E47 := Lib.hid (show val.getD 47 undef = .bool true by rw [hval]; rfl)
          have E48 := Lib.hid (show val.getD 48 undef = .bool true by rw [hval]; rfl)
          have E49 := Lib.hid (show val.getD 49 undef = .bool true by rw [hval]; rfl)
          have E50 := Lib.hid (show val.getD 50 undef = .pointer (some ⟨(u1.heap.size), 4, none⟩) by rw [hval]; rfl)
          have E51 := Lib.hid (show val.getD 51 undef = .int .i64 1453941846 by rw [hval]; rfl)
          have E52 := Lib.hid (show val.getD 52 undef = .pointer (some ⟨(u1.heap.size), 3, none⟩) by rw [hval]; rfl)
          have E53 := Lib.hid (show val.getD 53 undef = .int .i64 49659217 by rw [hval]; rfl)
          have E55 := Lib.hid (show val.getD 55 undef = .int .i64 1453941846 by rw [hval]; rfl)
          have E56 := Lib.hid (show val.getD 56 undef = .bool true by rw [hval]; rfl)
          have E57 := Lib.hid (show val.getD 57 undef = .bool true by rw [hval]; rfl)
          have E58 := Lib.hid (show val.getD 58 undef = .bool true by rw [hval]; rfl)
          clear hval
          obtain ⟨G, hG0⟩ : ∃ G : Nat → Value → World → Prop, G = (fun i v w => (i = 28 → IntsAt w v [1]) ∧ (i = 29 → IntsAt w v [1]) ∧ (i = 46 → IntsAt w v [1, 2, 3, 4, 5]) ∧ (i = 54 → IntsAt w v [4, 3, 2, 49659217]) ∧ (i ≠ 28 → i ≠ 29 → i ≠ 46 → i ≠ 54 → v = val.getD i undef)) := ⟨_, rfl⟩
          have HG := Lib.hid hG0
          clear hG0
          refine region_inv (RS lit u8 G) (by kernel_rfl) (by decide +kernel) ?_ ?_ ?_
          · exact ⟨fun i => ([undef, undef, undef, undef, undef, undef, undef, undef, undef, undef, undef, undef, undef, undef, undef, undef, undef, undef, undef, undef, undef, undef, undef, undef, undef, undef, undef, undef, undef, undef, undef, undef, undef, undef, undef, undef, undef, undef, undef, undef, undef, undef, undef, undef, undef, undef, undef, undef, undef, undef, undef, undef, undef, undef, undef, undef, undef, undef, Value.bool false] : List Value).getD i undef, (by rw [HLIT.out]; rfl), below_drew _ _, fun i h => by cases h⟩
          · refine ⟨?_, ?_, ?_, ?_, ?_, ?_, ?_, ?_, ?_, ?_, ?_, ?_, ?_, ?_, ?_, ?_, ?_, ?_, ?_, ?_, ?_, ?_, ?_, ?_, ?_, ?_, ?_, ?_, ?_, ?_, ?_, ?_, ?_, ?_, ?_, ?_, ?_, ?_, ?_, ?_, ?_, ?_, ?_, ?_, ?_, ?_, ?_, ?_, ?_, ?_, ?_, ?_, ?_, ?_, ?_, ?_, ?_, ?_, ?_, trivial⟩
            · intro bf ac wv hfb haf hJ K' hK
              obtain ⟨vs, rfl, hM, j4⟩ := hJ
              replace hK := Lib.hid hK
              replace hM := Lib.hid hM
              rw [HG.out] at j4
              replace j4 := Lib.hid j4
              clear haf hfb
              rw [HLIT.out]
              go_simp
              exact hK.out _ _ (RS.next (wv := wv) (vs := vs) 0 (x := .int .i64 0) (by rw [HLIT.out]; rfl) (by rw [HG.out]; exact j4.out) hM.out (by rw [HG.out]; exact fun _ _ h => h) (by rw [HG.out]; exact ⟨fun h => absurd h (by decide), fun h => absurd h (by decide), fun h => absurd h (by decide), fun h => absurd h (by decide), fun _ _ _ _ => E0.out.symm⟩))
            · intro bf ac wv hfb haf hJ K' hK
              obtain ⟨vs, rfl, hM, j4⟩ := hJ
              replace hK := Lib.hid hK
              replace hM := Lib.hid hM
              rw [HG.out] at j4
              simp [Region.binds] at haf
              have e0 := ((j4 0 (by simp [haf])).2.2.2.2 (by decide) (by decide) (by decide) (by decide)).trans E0.out
              replace j4 := Lib.hid j4
              clear haf hfb
              rw [HLIT.out]
              go_simp
              exact hK.out _ _ (RS.next (wv := wv) (vs := vs) 1 (x := .bool true) (by rw [HLIT.out]; simp only [upv, e0, Nat.reduceBEq, cond_true, cond_false]) (by rw [HG.out]; exact j4.out) hM.out (by rw [HG.out]; exact fun _ _ h => h) (by rw [HG.out]; exact ⟨fun h => absurd h (by decide), fun h => absurd h (by decide), fun h => absurd h (by decide), fun h => absurd h (by decide), fun _ _ _ _ => E1.out.symm⟩))
            · intro bf ac wv hfb haf hJ K' hK
              obtain ⟨vs, rfl, hM, j4⟩ := hJ
              replace hK := Lib.hid hK
              replace hM := Lib.hid hM
              rw [HG.out] at j4
              simp [Region.binds] at haf
              have e1 := ((j4 1 (by simp [haf])).2.2.2.2 (by decide) (by decide) (by decide) (by decide)).trans E1.out
              replace j4 := Lib.hid j4
              clear haf hfb
              rw [HLIT.out]
              go_simp
              exact hK.out _ _ (RS.next (wv := wv) (vs := vs) 2 (x := .bool true) (by rw [HLIT.out]; simp only [upv, e1, Nat.reduceBEq, cond_true, cond_false]) (by rw [HG.out]; exact j4.out) hM.out (by rw [HG.out]; exact fun _ _ h => h) (by rw [HG.out]; exact ⟨fun h => absurd h (by decide), fun h => absurd h (by decide), fun h => absurd h (by decide), fun h => absurd h (by decide), fun _ _ _ _ => E2.out.symm⟩))
            · intro bf ac wv hfb haf hJ K' hK
              obtain ⟨vs, rfl, hM, j4⟩ := hJ
              replace hK := Lib.hid hK
              replace hM := Lib.hid hM
              rw [HG.out] at j4
              simp [Region.binds] at haf
              have e2 := ((j4 2 (by simp [haf])).2.2.2.2 (by decide) (by decide) (by decide) (by decide)).trans E2.out
              replace j4 := Lib.hid j4
              clear haf hfb
              rw [HLIT.out]
              go_simp
              exact hK.out _ _ (RS.next (wv := wv) (vs := vs) 3 (x := .int .i64 31) (by rw [HLIT.out]; simp only [upv, e2, Nat.reduceBEq, cond_true, cond_false]) (by rw [HG.out]; exact j4.out) hM.out (by rw [HG.out]; exact fun _ _ h => h) (by rw [HG.out]; exact ⟨fun h => absurd h (by decide), fun h => absurd h (by decide), fun h => absurd h (by decide), fun h => absurd h (by decide), fun _ _ _ _ => E3.out.symm⟩))
            · intro bf ac wv hfb haf hJ K' hK
              obtain ⟨vs, rfl, hM, j4⟩ := hJ
              replace hK := Lib.hid hK
              replace hM := Lib.hid hM
              rw [HG.out] at j4
              simp [Region.binds] at haf
              have e2 := ((j4 2 (by simp [haf])).2.2.2.2 (by decide) (by decide) (by decide) (by decide)).trans E2.out
              have e3 := ((j4 3 (by simp [haf])).2.2.2.2 (by decide) (by decide) (by decide) (by decide)).trans E3.out
              replace j4 := Lib.hid j4
              clear haf hfb
              rw [HLIT.out]
              go_simp
              exact hK.out _ _ (RS.next (wv := wv) (vs := vs) 4 (x := .bool true) (by rw [HLIT.out]; simp only [upv, e2, e3, Nat.reduceBEq, cond_true, cond_false]) (by rw [HG.out]; exact j4.out) hM.out (by rw [HG.out]; exact fun _ _ h => h) (by rw [HG.out]; exact ⟨fun h => absurd h (by decide), fun h => absurd h (by decide), fun h => absurd h (by decide), fun h => absurd h (by decide), fun _ _ _ _ => E4.out.symm⟩))
            · intro bf ac wv hfb haf hJ K' hK
              obtain ⟨vs, rfl, hM, j4⟩ := hJ
              replace hK := Lib.hid hK
              replace hM := Lib.hid hM
              rw [HG.out] at j4
              simp [Region.binds] at haf
              have e2 := ((j4 2 (by simp [haf])).2.2.2.2 (by decide) (by decide) (by decide) (by decide)).trans E2.out
              have e4 := ((j4 4 (by simp [haf])).2.2.2.2 (by decide) (by decide) (by decide) (by decide)).trans E4.out
              replace j4 := Lib.hid j4
              clear haf hfb
              rw [HLIT.out]
              go_simp
              exact hK.out _ _ (RS.next (wv := wv) (vs := vs) 5 (x := .bool true) (by rw [HLIT.out]; simp only [upv, e2, e4, Nat.reduceBEq, cond_true, cond_false]) (by rw [HG.out]; exact j4.out) hM.out (by rw [HG.out]; exact fun _ _ h => h) (by rw [HG.out]; exact ⟨fun h => absurd h (by decide), fun h => absurd h (by decide), fun h => absurd h (by decide), fun h => absurd h (by decide), fun _ _ _ _ => E5.out.symm⟩))
            · intro bf ac wv hfb haf hJ K' hK
              obtain ⟨vs, rfl, hM, j4⟩ := hJ
              replace hK := Lib.hid hK
              replace hM := Lib.hid hM
              rw [HG.out] at j4
              simp [Region.binds] at haf
              have e5 := ((j4 5 (by simp [haf])).2.2.2.2 (by decide) (by decide) (by decide) (by decide)).trans E5.out
              replace j4 := Lib.hid j4
              clear haf hfb
              rw [HLIT.out]
              go_simp
              exact hK.out _ _ (RS.next (wv := wv) (vs := vs) 6 (x := .bool true) (by rw [HLIT.out]; simp only [upv, e5, Nat.reduceBEq, cond_true, cond_false]) (by rw [HG.out]; exact j4.out) hM.out (by rw [HG.out]; exact fun _ _ h => h) (by rw [HG.out]; exact ⟨fun h => absurd h (by decide), fun h => absurd h (by decide), fun h => absurd h (by decide), fun h => absurd h (by decide), fun _ _ _ _ => E6.out.symm⟩))
            · intro bf ac wv hfb haf hJ K' hK
              obtain ⟨vs, rfl, hM, j4⟩ := hJ
              replace hK := Lib.hid hK
              replace hM := Lib.hid hM
              rw [HG.out] at j4
              simp [Region.binds] at haf
              have e6 := ((j4 6 (by simp [haf])).2.2.2.2 (by decide) (by decide) (by decide) (by decide)).trans E6.out
              replace j4 := Lib.hid j4
              clear haf hfb
              rw [HLIT.out]
              go_simp
              exact hK.out _ _ (RS.next (wv := wv) (vs := vs) 7 (x := .int .i64 15) (by rw [HLIT.out]; simp only [upv, e6, Nat.reduceBEq, cond_true, cond_false]) (by rw [HG.out]; exact j4.out) hM.out (by rw [HG.out]; exact fun _ _ h => h) (by rw [HG.out]; exact ⟨fun h => absurd h (by decide), fun h => absurd h (by decide), fun h => absurd h (by decide), fun h => absurd h (by decide), fun _ _ _ _ => E7.out.symm⟩))
            · intro bf ac wv hfb haf hJ K' hK
              obtain ⟨vs, rfl, hM, j4⟩ := hJ
              replace hK := Lib.hid hK
              replace hM := Lib.hid hM
              rw [HG.out] at j4
              simp [Region.binds] at haf
              have e6 := ((j4 6 (by simp [haf])).2.2.2.2 (by decide) (by decide) (by decide) (by decide)).trans E6.out
              have e7 := ((j4 7 (by simp [haf])).2.2.2.2 (by decide) (by decide) (by decide) (by decide)).trans E7.out
              replace j4 := Lib.hid j4
              clear haf hfb
              rw [HLIT.out]
              go_simp
              exact hK.out _ _ (RS.next (wv := wv) (vs := vs) 8 (x := .bool true) (by rw [HLIT.out]; simp only [upv, e6, e7, Nat.reduceBEq, cond_true, cond_false]) (by rw [HG.out]; exact j4.out) hM.out (by rw [HG.out]; exact fun _ _ h => h) (by rw [HG.out]; exact ⟨fun h => absurd h (by decide), fun h => absurd h (by decide), fun h => absurd h (by decide), fun h => absurd h (by decide), fun _ _ _ _ => E8.out.symm⟩))
            · intro bf ac wv hfb haf hJ K' hK
              obtain ⟨vs, rfl, hM, j4⟩ := hJ
              replace hK := Lib.hid hK
              replace hM := Lib.hid hM
              rw [HG.out] at j4
              simp [Region.binds] at haf
              have e6 := ((j4 6 (by simp [haf])).2.2.2.2 (by decide) (by decide) (by decide) (by decide)).trans E6.out
              have e8 := ((j4 8 (by simp [haf])).2.2.2.2 (by decide) (by decide) (by decide) (by decide)).trans E8.out
              replace j4 := Lib.hid j4
              clear haf hfb
              rw [HLIT.out]
              go_simp
              exact hK.out _ _ (RS.next (wv := wv) (vs := vs) 9 (x := .bool true) (by rw [HLIT.out]; simp only [upv, e6, e8, Nat.reduceBEq, cond_true, cond_false]) (by rw [HG.out]; exact j4.out) hM.out (by rw [HG.out]; exact fun _ _ h => h) (by rw [HG.out]; exact ⟨fun h => absurd h (by decide), fun h => absurd h (by decide), fun h => absurd h (by decide), fun h => absurd h (by decide), fun _ _ _ _ => E9.out.symm⟩))
            · intro bf ac wv hfb haf hJ K' hK
              obtain ⟨vs, rfl, hM, j4⟩ := hJ
              replace hK := Lib.hid hK
              replace hM := Lib.hid hM
              rw [HG.out] at j4
              simp [Region.binds] at haf
              have e9 := ((j4 9 (by simp [haf])).2.2.2.2 (by decide) (by decide) (by decide) (by decide)).trans E9.out
              replace j4 := Lib.hid j4
              clear haf hfb
              rw [HLIT.out]
              go_simp
              exact hK.out _ _ (RS.next (wv := wv) (vs := vs) 10 (x := .bool true) (by rw [HLIT.out]; simp only [upv, e9, Nat.reduceBEq, cond_true, cond_false]) (by rw [HG.out]; exact j4.out) hM.out (by rw [HG.out]; exact fun _ _ h => h) (by rw [HG.out]; exact ⟨fun h => absurd h (by decide), fun h => absurd h (by decide), fun h => absurd h (by decide), fun h => absurd h (by decide), fun _ _ _ _ => E10.out.symm⟩))
            · intro bf ac wv hfb haf hJ K' hK
              obtain ⟨vs, rfl, hM, j4⟩ := hJ
              replace hK := Lib.hid hK
              replace hM := Lib.hid hM
              rw [HG.out] at j4
              simp [Region.binds] at haf
              have e10 := ((j4 10 (by simp [haf])).2.2.2.2 (by decide) (by decide) (by decide) (by decide)).trans E10.out
              replace j4 := Lib.hid j4
              clear haf hfb
              rw [HLIT.out]
              go_simp
              exact hK.out _ _ (RS.next (wv := wv) (vs := vs) 11 (x := .int .i64 0) (by rw [HLIT.out]; simp only [upv, e10, Nat.reduceBEq, cond_true, cond_false]) (by rw [HG.out]; exact j4.out) hM.out (by rw [HG.out]; exact fun _ _ h => h) (by rw [HG.out]; exact ⟨fun h => absurd h (by decide), fun h => absurd h (by decide), fun h => absurd h (by decide), fun h => absurd h (by decide), fun _ _ _ _ => E11.out.symm⟩))
            · intro bf ac wv hfb haf hJ K' hK
              obtain ⟨vs, rfl, hM, j4⟩ := hJ
              replace hK := Lib.hid hK
              replace hM := Lib.hid hM
              rw [HG.out] at j4
              simp [Region.binds] at haf
              have e10 := ((j4 10 (by simp [haf])).2.2.2.2 (by decide) (by decide) (by decide) (by decide)).trans E10.out
              have e11 := ((j4 11 (by simp [haf])).2.2.2.2 (by decide) (by decide) (by decide) (by decide)).trans E11.out
              replace j4 := Lib.hid j4
              clear haf hfb
              rw [HLIT.out]
              go_simp
              exact hK.out _ _ (RS.next (wv := wv) (vs := vs) 12 (x := .bool true) (by rw [HLIT.out]; simp only [upv, e10, e11, Nat.reduceBEq, cond_true, cond_false]) (by rw [HG.out]; exact j4.out) hM.out (by rw [HG.out]; exact fun _ _ h => h) (by rw [HG.out]; exact ⟨fun h => absurd h (by decide), fun h => absurd h (by decide), fun h => absurd h (by decide), fun h => absurd h (by decide), fun _ _ _ _ => E12.out.symm⟩))
            · intro bf ac wv hfb haf hJ K' hK
              obtain ⟨vs, rfl, hM, j4⟩ := hJ
              replace hK := Lib.hid hK
              replace hM := Lib.hid hM
              rw [HG.out] at j4
              simp [Region.binds] at haf
              have e10 := ((j4 10 (by simp [haf])).2.2.2.2 (by decide) (by decide) (by decide) (by decide)).trans E10.out
              have e12 := ((j4 12 (by simp [haf])).2.2.2.2 (by decide) (by decide) (by decide) (by decide)).trans E12.out
              replace j4 := Lib.hid j4
              clear haf hfb
              rw [HLIT.out]
              go_simp
              exact hK.out _ _ (RS.next (wv := wv) (vs := vs) 13 (x := .bool true) (by rw [HLIT.out]; simp only [upv, e10, e12, Nat.reduceBEq, cond_true, cond_false]) (by rw [HG.out]; exact j4.out) hM.out (by rw [HG.out]; exact fun _ _ h => h) (by rw [HG.out]; exact ⟨fun h => absurd h (by decide), fun h => absurd h (by decide), fun h => absurd h (by decide), fun h => absurd h (by decide), fun _ _ _ _ => E13.out.symm⟩))
            · intro bf ac wv hfb haf hJ K' hK
              obtain ⟨vs, rfl, hM, j4⟩ := hJ
              replace hK := Lib.hid hK
              replace hM := Lib.hid hM
              rw [HG.out] at j4
              simp [Region.binds] at haf
              have e13 := ((j4 13 (by simp [haf])).2.2.2.2 (by decide) (by decide) (by decide) (by decide)).trans E13.out
              replace j4 := Lib.hid j4
              clear haf hfb
              rw [HLIT.out]
              go_simp
              exact hK.out _ _ (RS.next (wv := wv) (vs := vs) 14 (x := .bool true) (by rw [HLIT.out]; simp only [upv, e13, Nat.reduceBEq, cond_true, cond_false]) (by rw [HG.out]; exact j4.out) hM.out (by rw [HG.out]; exact fun _ _ h => h) (by rw [HG.out]; exact ⟨fun h => absurd h (by decide), fun h => absurd h (by decide), fun h => absurd h (by decide), fun h => absurd h (by decide), fun _ _ _ _ => E14.out.symm⟩))
            · intro bf ac wv hfb haf hJ K' hK
              obtain ⟨vs, rfl, hM, j4⟩ := hJ
              replace hK := Lib.hid hK
              replace hM := Lib.hid hM
              rw [HG.out] at j4
              simp [Region.binds] at haf
              have e14 := ((j4 14 (by simp [haf])).2.2.2.2 (by decide) (by decide) (by decide) (by decide)).trans E14.out
              replace j4 := Lib.hid j4
              clear haf hfb
              rw [HLIT.out]
              go_simp
              exact hK.out _ _ (RS.next (wv := wv) (vs := vs) 15 (x := .int .i64 0) (by rw [HLIT.out]; simp only [upv, e14, Nat.reduceBEq, cond_true, cond_false]) (by rw [HG.out]; exact j4.out) hM.out (by rw [HG.out]; exact fun _ _ h => h) (by rw [HG.out]; exact ⟨fun h => absurd h (by decide), fun h => absurd h (by decide), fun h => absurd h (by decide), fun h => absurd h (by decide), fun _ _ _ _ => E15.out.symm⟩))
            · intro bf ac wv hfb haf hJ K' hK
              obtain ⟨vs, rfl, hM, j4⟩ := hJ
              replace hK := Lib.hid hK
              replace hM := Lib.hid hM
              rw [HG.out] at j4
              simp [Region.binds] at haf
              have e14 := ((j4 14 (by simp [haf])).2.2.2.2 (by decide) (by decide) (by decide) (by decide)).trans E14.out
              have e15 := ((j4 15 (by simp [haf])).2.2.2.2 (by decide) (by decide) (by decide) (by decide)).trans E15.out
              replace j4 := Lib.hid j4
              clear haf hfb
              rw [HLIT.out]
              go_simp
              exact hK.out _ _ (RS.next (wv := wv) (vs := vs) 16 (x := .bool true) (by rw [HLIT.out]; simp only [upv, e14, e15, Nat.reduceBEq, cond_true, cond_false]) (by rw [HG.out]; exact j4.out) hM.out (by rw [HG.out]; exact fun _ _ h => h) (by rw [HG.out]; exact ⟨fun h => absurd h (by decide), fun h => absurd h (by decide), fun h => absurd h (by decide), fun h => absurd h (by decide), fun _ _ _ _ => E16.out.symm⟩))
            · intro bf ac wv hfb haf hJ K' hK
              obtain ⟨vs, rfl, hM, j4⟩ := hJ
              replace hK := Lib.hid hK
              replace hM := Lib.hid hM
              rw [HG.out] at j4
              simp [Region.binds] at haf
              have e14 := ((j4 14 (by simp [haf])).2.2.2.2 (by decide) (by decide) (by decide) (by decide)).trans E14.out
              have e16 := ((j4 16 (by simp [haf])).2.2.2.2 (by decide) (by decide) (by decide) (by decide)).trans E16.out
              replace j4 := Lib.hid j4
              clear haf hfb
              rw [HLIT.out]
              go_simp
              exact hK.out _ _ (RS.next (wv := wv) (vs := vs) 17 (x := .bool true) (by rw [HLIT.out]; simp only [upv, e14, e16, Nat.reduceBEq, cond_true, cond_false]) (by rw [HG.out]; exact j4.out) hM.out (by rw [HG.out]; exact fun _ _ h => h) (by rw [HG.out]; exact ⟨fun h => absurd h (by decide), fun h => absurd h (by decide), fun h => absurd h (by decide), fun h => absurd h (by decide), fun _ _ _ _ => E17.out.symm⟩))
            · intro bf ac wv hfb haf hJ K' hK
              obtain ⟨vs, rfl, hM, j4⟩ := hJ
              replace hK := Lib.hid hK
              replace hM := Lib.hid hM
              rw [HG.out] at j4
              simp [Region.binds] at haf
              have e17 := ((j4 17 (by simp [haf])).2.2.2.2 (by decide) (by decide) (by decide) (by decide)).trans E17.out
              replace j4 := Lib.hid j4
              clear haf hfb
              rw [HLIT.out]
              go_simp
              exact hK.out _ _ (RS.next (wv := wv) (vs := vs) 18 (x := .bool true) (by rw [HLIT.out]; simp only [upv, e17, Nat.reduceBEq, cond_true, cond_false]) (by rw [HG.out]; exact j4.out) hM.out (by rw [HG.out]; exact fun _ _ h => h) (by rw [HG.out]; exact ⟨fun h => absurd h (by decide), fun h => absurd h (by decide), fun h => absurd h (by decide), fun h => absurd h (by decide), fun _ _ _ _ => E18.out.symm⟩))
            · intro bf ac wv hfb haf hJ K' hK
              obtain ⟨vs, rfl, hM, j4⟩ := hJ
              replace hK := Lib.hid hK
              replace hM := Lib.hid hM
              rw [HG.out] at j4
              simp [Region.binds] at haf
              have e18 := ((j4 18 (by simp [haf])).2.2.2.2 (by decide) (by decide) (by decide) (by decide)).trans E18.out
              replace j4 := Lib.hid j4
              clear haf hfb
              rw [HLIT.out]
              go_simp
              exact hK.out _ _ (RS.next (wv := wv) (vs := vs) 19 (x := .int .i64 0) (by rw [HLIT.out]; simp only [upv, e18, Nat.reduceBEq, cond_true, cond_false]) (by rw [HG.out]; exact j4.out) hM.out (by rw [HG.out]; exact fun _ _ h => h) (by rw [HG.out]; exact ⟨fun h => absurd h (by decide), fun h => absurd h (by decide), fun h => absurd h (by decide), fun h => absurd h (by decide), fun _ _ _ _ => E19.out.symm⟩))
            · intro bf ac wv hfb haf hJ K' hK
              obtain ⟨vs, rfl, hM, j4⟩ := hJ
              replace hK := Lib.hid hK
              replace hM := Lib.hid hM
              rw [HG.out] at j4
              simp [Region.binds] at haf
              have e18 := ((j4 18 (by simp [haf])).2.2.2.2 (by decide) (by decide) (by decide) (by decide)).trans E18.out
              have e19 := ((j4 19 (by simp [haf])).2.2.2.2 (by decide) (by decide) (by decide) (by decide)).trans E19.out
              replace j4 := Lib.hid j4
              clear haf hfb
              rw [HLIT.out]
              go_simp
              exact hK.out _ _ (RS.next (wv := wv) (vs := vs) 20 (x := .bool true) (by rw [HLIT.out]; simp only [upv, e18, e19, Nat.reduceBEq, cond_true, cond_false]) (by rw [HG.out]; exact j4.out) hM.out (by rw [HG.out]; exact fun _ _ h => h) (by rw [HG.out]; exact ⟨fun h => absurd h (by decide), fun h => absurd h (by decide), fun h => absurd h (by decide), fun h => absurd h (by decide), fun _ _ _ _ => E20.out.symm⟩))
            · intro bf ac wv hfb haf hJ K' hK
              obtain ⟨vs, rfl, hM, j4⟩ := hJ
              replace hK := Lib.hid hK
              replace hM := Lib.hid hM
              rw [HG.out] at j4
              simp [Region.binds] at haf
              have e18 := ((j4 18 (by simp [haf])).2.2.2.2 (by decide) (by decide) (by decide) (by decide)).trans E18.out
              have e20 := ((j4 20 (by simp [haf])).2.2.2.2 (by decide) (by decide) (by decide) (by decide)).trans E20.out
              replace j4 := Lib.hid j4
              clear haf hfb
              rw [HLIT.out]
              go_simp
              exact hK.out _ _ (RS.next (wv := wv) (vs := vs) 21 (x := .bool true) (by rw [HLIT.out]; simp only [upv, e18, e20, Nat.reduceBEq, cond_true, cond_false]) (by rw [HG.out]; exact j4.out) hM.out (by rw [HG.out]; exact fun _ _ h => h) (by rw [HG.out]; exact ⟨fun h => absurd h (by decide), fun h => absurd h (by decide), fun h => absurd h (by decide), fun h => absurd h (by decide), fun _ _ _ _ => E21.out.symm⟩))
            · intro bf ac wv hfb haf hJ K' hK
              obtain ⟨vs, rfl, hM, j4⟩ := hJ
              replace hK := Lib.hid hK
              replace hM := Lib.hid hM
              rw [HG.out] at j4
              simp [Region.binds] at haf
              have e21 := ((j4 21 (by simp [haf])).2.2.2.2 (by decide) (by decide) (by decide) (by decide)).trans E21.out
              replace j4 := Lib.hid j4
              clear haf hfb
              rw [HLIT.out]
              go_simp
              exact hK.out _ _ (RS.next (wv := wv) (vs := vs) 22 (x := .bool true) (by rw [HLIT.out]; simp only [upv, e21, Nat.reduceBEq, cond_true, cond_false]) (by rw [HG.out]; exact j4.out) hM.out (by rw [HG.out]; exact fun _ _ h => h) (by rw [HG.out]; exact ⟨fun h => absurd h (by decide), fun h => absurd h (by decide), fun h => absurd h (by decide), fun h => absurd h (by decide), fun _ _ _ _ => E22.out.symm⟩))
            · intro bf ac wv hfb haf hJ K' hK
              obtain ⟨vs, rfl, hM, j4⟩ := hJ
              replace hK := Lib.hid hK
              replace hM := Lib.hid hM
              rw [HG.out] at j4
              simp [Region.binds] at haf
              have e22 := ((j4 22 (by simp [haf])).2.2.2.2 (by decide) (by decide) (by decide) (by decide)).trans E22.out
              replace j4 := Lib.hid j4
              clear haf hfb
              rw [HLIT.out]
              go_simp
              exact hK.out _ _ (RS.next (wv := wv) (vs := vs) 23 (x := .int .i64 28) (by rw [HLIT.out]; simp only [upv, e22, Nat.reduceBEq, cond_true, cond_false]) (by rw [HG.out]; exact j4.out) hM.out (by rw [HG.out]; exact fun _ _ h => h) (by rw [HG.out]; exact ⟨fun h => absurd h (by decide), fun h => absurd h (by decide), fun h => absurd h (by decide), fun h => absurd h (by decide), fun _ _ _ _ => E23.out.symm⟩))
            · intro bf ac wv hfb haf hJ K' hK
              obtain ⟨vs, rfl, hM, j4⟩ := hJ
              replace hK := Lib.hid hK
              replace hM := Lib.hid hM
              rw [HG.out] at j4
              simp [Region.binds] at haf
              have e22 := ((j4 22 (by simp [haf])).2.2.2.2 (by decide) (by decide) (by decide) (by decide)).trans E22.out
              have e23 := ((j4 23 (by simp [haf])).2.2.2.2 (by decide) (by decide) (by decide) (by decide)).trans E23.out
              replace j4 := Lib.hid j4
              clear haf hfb
              rw [HLIT.out]
              go_simp
              exact hK.out _ _ (RS.next (wv := wv) (vs := vs) 24 (x := .bool true) (by rw [HLIT.out]; simp only [upv, e22, e23, Nat.reduceBEq, cond_true, cond_false]) (by rw [HG.out]; exact j4.out) hM.out (by rw [HG.out]; exact fun _ _ h => h) (by rw [HG.out]; exact ⟨fun h => absurd h (by decide), fun h => absurd h (by decide), fun h => absurd h (by decide), fun h => absurd h (by decide), fun _ _ _ _ => E24.out.symm⟩))
            · intro bf ac wv hfb haf hJ K' hK
              obtain ⟨vs, rfl, hM, j4⟩ := hJ
              replace hK := Lib.hid hK
              replace hM := Lib.hid hM
              rw [HG.out] at j4
              simp [Region.binds] at haf
              have e22 := ((j4 22 (by simp [haf])).2.2.2.2 (by decide) (by decide) (by decide) (by decide)).trans E22.out
              have e24 := ((j4 24 (by simp [haf])).2.2.2.2 (by decide) (by decide) (by decide) (by decide)).trans E24.out
              replace j4 := Lib.hid j4
              clear haf hfb
              rw [HLIT.out]
              go_simp
              exact hK.out _ _ (RS.next (wv := wv) (vs := vs) 25 (x := .bool true) (by rw [HLIT.out]; simp only [upv, e22, e24, Nat.reduceBEq, cond_true, cond_false]) (by rw [HG.out]; exact j4.out) hM.out (by rw [HG.out]; exact fun _ _ h => h) (by rw [HG.out]; exact ⟨fun h => absurd h (by decide), fun h => absurd h (by decide), fun h => absurd h (by decide), fun h => absurd h (by decide), fun _ _ _ _ => E25.out.symm⟩))
            · intro bf ac wv hfb haf hJ K' hK
              obtain ⟨vs, rfl, hM, j4⟩ := hJ
              replace hK := Lib.hid hK
              replace hM := Lib.hid hM
              rw [HG.out] at j4
              simp [Region.binds] at haf
              have e25 := ((j4 25 (by simp [haf])).2.2.2.2 (by decide) (by decide) (by decide) (by decide)).trans E25.out
              replace j4 := Lib.hid j4
              clear haf hfb
              rw [HLIT.out]
              go_simp
              exact hK.out _ _ (RS.next (wv := wv) (vs := vs) 26 (x := .bool true) (by rw [HLIT.out]; simp only [upv, e25, Nat.reduceBEq, cond_true, cond_false]) (by rw [HG.out]; exact j4.out) hM.out (by rw [HG.out]; exact fun _ _ h => h) (by rw [HG.out]; exact ⟨fun h => absurd h (by decide), fun h => absurd h (by decide), fun h => absurd h (by decide), fun h => absurd h (by decide), fun _ _ _ _ => E26.out.symm⟩))
            · intro bf ac wv hfb haf hJ K' hK
              obtain ⟨vs, rfl, hM, j4⟩ := hJ
              replace hK := Lib.hid hK
              replace hM := Lib.hid hM
              rw [HG.out] at j4
              simp [Region.binds] at haf
              have e26 := ((j4 26 (by simp [haf])).2.2.2.2 (by decide) (by decide) (by decide) (by decide)).trans E26.out
              replace j4 := Lib.hid j4
              clear haf hfb
              have K1k := H214.out.step hM.out
              have xk0 := K1k.c 0 rfl
              have xk1 := K1k.c 1 rfl
              have xk2 := K1k.c 2 rfl
              have xk3 := K1k.c 3 rfl
              have xk4 := K1k.c 4 rfl
              have xk5 := K1k.c 5 rfl
              have xzk := K1k.2.2
              clear K1k
              rw [HLIT.out]
              go_simp
              exact hK.out _ _ (RS.next (wv := wv) (vs := vs) 27 (x := .agg #[.int .i64 4, .int .i64 3, .int .i64 2, .int .i64 49659217, .int .i64 1453941846, .slice ra10 3 rc10]) (by rw [HLIT.out]; simp only [upv, e26, Nat.reduceBEq, cond_true, cond_false]) (by rw [HG.out]; exact j4.out) hM.out (by rw [HG.out]; exact fun _ _ h => h) (by rw [HG.out]; exact ⟨fun h => absurd h (by decide), fun h => absurd h (by decide), fun h => absurd h (by decide), fun h => absurd h (by decide), fun _ _ _ _ => E27.out.symm⟩))
            · intro bf ac wv hfb haf hJ K' hK
              obtain ⟨vs, rfl, hM, j4⟩ := hJ
              replace hK := Lib.hid hK
              replace hM := Lib.hid hM
              rw [HG.out] at j4
              simp [Region.binds] at haf
              have e26 := ((j4 26 (by simp [haf])).2.2.2.2 (by decide) (by decide) (by decide) (by decide)).trans E26.out
              have e27 := ((j4 27 (by simp [haf])).2.2.2.2 (by decide) (by decide) (by decide) (by decide)).trans E27.out
              replace j4 := Lib.hid j4
              clear haf hfb
              rw [HLIT.out]
              go_simp
              go_at_call 22
              refine (miss_any ⟨4, 3, 2, 49659217, 1453941846⟩ _ [[1, 2], [], [5]] wv (H215.out.step hM.out).rows (by simp) (by simp)).mono ?_
              rintro e w4 ⟨u, rfl, hu, b4⟩
              rw [hd_ms1] at hu
              exact hK.out _ _ (RS.next (wv := wv) (vs := vs) 28 (x := u) (by rw [HLIT.out]; simp only [upv, e26, e27, Nat.reduceBEq, cond_true, cond_false]) (by rw [HG.out]; exact j4.out) (keep2 b4 hM.out) (by rw [HG.out]; exact fun k v h => ⟨fun q => (h.1 q).step b4, fun q => (h.2.1 q).step b4, fun q => (h.2.2.1 q).step b4, fun q => (h.2.2.2.1 q).step b4, h.2.2.2.2⟩) (by rw [HG.out]; exact ⟨fun _ => hu, fun h => absurd h (by decide), fun h => absurd h (by decide), fun h => absurd h (by decide), fun h28 => absurd rfl h28⟩))
            · intro bf ac wv hfb haf hJ K' hK
              obtain ⟨vs, rfl, hM, j4⟩ := hJ
              replace hK := Lib.hid hK
              replace hM := Lib.hid hM
              rw [HG.out] at j4
              simp [Region.binds] at haf
              have e26 := ((j4 26 (by simp [haf])).2.2.2.2 (by decide) (by decide) (by decide) (by decide)).trans E26.out
              replace j4 := Lib.hid j4
              clear haf hfb
              rw [HLIT.out]
              go_simp
              have b4 := al wv (.cells #[.int .i64 1] 3)
              exact hK.out _ _ (RS.next (wv := wv) (vs := vs) 29 (x := .slice (some ⟨wv.heap.size, 0, none⟩) 1 1) (by rw [HLIT.out]; simp only [upv, e26, Nat.reduceBEq, cond_true, cond_false]) (by rw [HG.out]; exact j4.out) (keep2 b4 hM.out) (by rw [HG.out]; exact fun k v h => ⟨fun q => (h.1 q).step b4, fun q => (h.2.1 q).step b4, fun q => (h.2.2.1 q).step b4, fun q => (h.2.2.2.1 q).step b4, h.2.2.2.2⟩) (by rw [HG.out]; exact ⟨fun h => absurd h (by decide), fun _ => ints_lit wv [1] #[.int .i64 1] 3 rfl (by simp) 1 rfl _ rfl, fun h => absurd h (by decide), fun h => absurd h (by decide), fun h28 => fun h29 => absurd rfl h29⟩))
            · intro bf ac wv hfb haf hJ K' hK
              obtain ⟨vs, rfl, hM, j4⟩ := hJ
              replace hK := Lib.hid hK
              replace hM := Lib.hid hM
              rw [HG.out] at j4
              simp [Region.binds] at haf
              have e26 := ((j4 26 (by simp [haf])).2.2.2.2 (by decide) (by decide) (by decide) (by decide)).trans E26.out
              have e28 := (j4 28 (by simp [haf])).1 rfl
              have e29 := (j4 29 (by simp [haf])).2.1 rfl
              replace j4 := Lib.hid j4
              clear haf hfb
              rw [HLIT.out]
              go_simp
              go_at_call 21
              refine (ints_bel _ _ [1] [1] wv e28 e29).mono ?_
              rintro e w4 ⟨rfl, b4⟩
              rw [decide_eq_true (rfl : ([1] : List Int) = [1])]
              exact hK.out _ _ (RS.next (wv := wv) (vs := vs) 30 (x := .bool true) (by rw [HLIT.out]; simp only [upv, e26, Nat.reduceBEq, cond_true, cond_false]) (by rw [HG.out]; exact j4.out) (keep2 b4 hM.out) (by rw [HG.out]; exact fun k v h => ⟨fun q => (h.1 q).step b4, fun q => (h.2.1 q).step b4, fun q => (h.2.2.1 q).step b4, fun q => (h.2.2.2.1 q).step b4, h.2.2.2.2⟩) (by rw [HG.out]; exact ⟨fun h => absurd h (by decide), fun h => absurd h (by decide), fun h => absurd h (by decide), fun h => absurd h (by decide), fun _ _ _ _ => E30.out.symm⟩))
            · intro bf ac wv hfb haf hJ K' hK
              obtain ⟨vs, rfl, hM, j4⟩ := hJ
              replace hK := Lib.hid hK
              replace hM := Lib.hid hM
              rw [HG.out] at j4
              simp [Region.binds] at haf
              have e26 := ((j4 26 (by simp [haf])).2.2.2.2 (by decide) (by decide) (by decide) (by decide)).trans E26.out
              have e30 := ((j4 30 (by simp [haf])).2.2.2.2 (by decide) (by decide) (by decide) (by decide)).trans E30.out
              replace j4 := Lib.hid j4
              clear haf hfb
              rw [HLIT.out]
              go_simp
              exact hK.out _ _ (RS.next (wv := wv) (vs := vs) 31 (x := .bool true) (by rw [HLIT.out]; simp only [upv, e26, e30, Nat.reduceBEq, cond_true, cond_false]) (by rw [HG.out]; exact j4.out) hM.out (by rw [HG.out]; exact fun _ _ h => h) (by rw [HG.out]; exact ⟨fun h => absurd h (by decide), fun h => absurd h (by decide), fun h => absurd h (by decide), fun h => absurd h (by decide), fun _ _ _ _ => E31.out.symm⟩))
            · intro bf ac wv hfb haf hJ K' hK
              obtain ⟨vs, rfl, hM, j4⟩ := hJ
              replace hK := Lib.hid hK
              replace hM := Lib.hid hM
              rw [HG.out] at j4
              simp [Region.binds] at haf
              have e31 := ((j4 31 (by simp [haf])).2.2.2.2 (by decide) (by decide) (by decide) (by decide)).trans E31.out
              replace j4 := Lib.hid j4
              clear haf hfb
              rw [HLIT.out]
              go_simp
              exact hK.out _ _ (RS.next (wv := wv) (vs := vs) 32 (x := .bool true) (by rw [HLIT.out]; simp only [upv, e31, Nat.reduceBEq, cond_true, cond_false]) (by rw [HG.out]; exact j4.out) hM.out (by rw [HG.out]; exact fun _ _ h => h) (by rw [HG.out]; exact ⟨fun h => absurd h (by decide), fun h => absurd h (by decide), fun h => absurd h (by decide), fun h => absurd h (by decide), fun _ _ _ _ => E32.out.symm⟩))
            · intro bf ac wv hfb haf hJ K' hK
              obtain ⟨vs, rfl, hM, j4⟩ := hJ
              replace hK := Lib.hid hK
              replace hM := Lib.hid hM
              rw [HG.out] at j4
              simp [Region.binds] at haf
              have e32 := ((j4 32 (by simp [haf])).2.2.2.2 (by decide) (by decide) (by decide) (by decide)).trans E32.out
              replace j4 := Lib.hid j4
              clear haf hfb
              rw [HLIT.out]
              go_simp
              exact hK.out _ _ (RS.next (wv := wv) (vs := vs) 33 (x := .int .i64 17) (by rw [HLIT.out]; simp only [upv, e32, Nat.reduceBEq, cond_true, cond_false]) (by rw [HG.out]; exact j4.out) hM.out (by rw [HG.out]; exact fun _ _ h => h) (by rw [HG.out]; exact ⟨fun h => absurd h (by decide), fun h => absurd h (by decide), fun h => absurd h (by decide), fun h => absurd h (by decide), fun _ _ _ _ => E33.out.symm⟩))
            · intro bf ac wv hfb haf hJ K' hK
              obtain ⟨vs, rfl, hM, j4⟩ := hJ
              replace hK := Lib.hid hK
              replace hM := Lib.hid hM
              rw [HG.out] at j4
              simp [Region.binds] at haf
              have e32 := ((j4 32 (by simp [haf])).2.2.2.2 (by decide) (by decide) (by decide) (by decide)).trans E32.out
              have e33 := ((j4 33 (by simp [haf])).2.2.2.2 (by decide) (by decide) (by decide) (by decide)).trans E33.out
              replace j4 := Lib.hid j4
              clear haf hfb
              rw [HLIT.out]
              go_simp
              exact hK.out _ _ (RS.next (wv := wv) (vs := vs) 34 (x := .bool true) (by rw [HLIT.out]; simp only [upv, e32, e33, Nat.reduceBEq, cond_true, cond_false]) (by rw [HG.out]; exact j4.out) hM.out (by rw [HG.out]; exact fun _ _ h => h) (by rw [HG.out]; exact ⟨fun h => absurd h (by decide), fun h => absurd h (by decide), fun h => absurd h (by decide), fun h => absurd h (by decide), fun _ _ _ _ => E34.out.symm⟩))
            · intro bf ac wv hfb haf hJ K' hK
              obtain ⟨vs, rfl, hM, j4⟩ := hJ
              replace hK := Lib.hid hK
              replace hM := Lib.hid hM
              rw [HG.out] at j4
              simp [Region.binds] at haf
              have e32 := ((j4 32 (by simp [haf])).2.2.2.2 (by decide) (by decide) (by decide) (by decide)).trans E32.out
              have e34 := ((j4 34 (by simp [haf])).2.2.2.2 (by decide) (by decide) (by decide) (by decide)).trans E34.out
              replace j4 := Lib.hid j4
              clear haf hfb
              rw [HLIT.out]
              go_simp
              exact hK.out _ _ (RS.next (wv := wv) (vs := vs) 35 (x := .bool true) (by rw [HLIT.out]; simp only [upv, e32, e34, Nat.reduceBEq, cond_true, cond_false]) (by rw [HG.out]; exact j4.out) hM.out (by rw [HG.out]; exact fun _ _ h => h) (by rw [HG.out]; exact ⟨fun h => absurd h (by decide), fun h => absurd h (by decide), fun h => absurd h (by decide), fun h => absurd h (by decide), fun _ _ _ _ => E35.out.symm⟩))
            · intro bf ac wv hfb haf hJ K' hK
              obtain ⟨vs, rfl, hM, j4⟩ := hJ
              replace hK := Lib.hid hK
              replace hM := Lib.hid hM
              rw [HG.out] at j4
              simp [Region.binds] at haf
              have e35 := ((j4 35 (by simp [haf])).2.2.2.2 (by decide) (by decide) (by decide) (by decide)).trans E35.out
              replace j4 := Lib.hid j4
              clear haf hfb
              rw [HLIT.out]
              go_simp
              exact hK.out _ _ (RS.next (wv := wv) (vs := vs) 36 (x := .bool true) (by rw [HLIT.out]; simp only [upv, e35, Nat.reduceBEq, cond_true, cond_false]) (by rw [HG.out]; exact j4.out) hM.out (by rw [HG.out]; exact fun _ _ h => h) (by rw [HG.out]; exact ⟨fun h => absurd h (by decide), fun h => absurd h (by decide), fun h => absurd h (by decide), fun h => absurd h (by decide), fun _ _ _ _ => E36.out.symm⟩))
            · intro bf ac wv hfb haf hJ K' hK
              obtain ⟨vs, rfl, hM, j4⟩ := hJ
              replace hK := Lib.hid hK
              replace hM := Lib.hid hM
              rw [HG.out] at j4
              simp [Region.binds] at haf
              have e36 := ((j4 36 (by simp [haf])).2.2.2.2 (by decide) (by decide) (by decide) (by decide)).trans E36.out
              replace j4 := Lib.hid j4
              clear haf hfb
              rw [HLIT.out]
              go_simp
              exact hK.out _ _ (RS.next (wv := wv) (vs := vs) 37 (x := .int .i64 0) (by rw [HLIT.out]; simp only [upv, e36, Nat.reduceBEq, cond_true, cond_false]) (by rw [HG.out]; exact j4.out) hM.out (by rw [HG.out]; exact fun _ _ h => h) (by rw [HG.out]; exact ⟨fun h => absurd h (by decide), fun h => absurd h (by decide), fun h => absurd h (by decide), fun h => absurd h (by decide), fun _ _ _ _ => E37.out.symm⟩))
            · intro bf ac wv hfb haf hJ K' hK
              obtain ⟨vs, rfl, hM, j4⟩ := hJ
              replace hK := Lib.hid hK
              replace hM := Lib.hid hM
              rw [HG.out] at j4
              simp [Region.binds] at haf
              have e36 := ((j4 36 (by simp [haf])).2.2.2.2 (by decide) (by decide) (by decide) (by decide)).trans E36.out
              have e37 := ((j4 37 (by simp [haf])).2.2.2.2 (by decide) (by decide) (by decide) (by decide)).trans E37.out
              replace j4 := Lib.hid j4
              clear haf hfb
              rw [HLIT.out]
              go_simp
              exact hK.out _ _ (RS.next (wv := wv) (vs := vs) 38 (x := .bool true) (by rw [HLIT.out]; simp only [upv, e36, e37, Nat.reduceBEq, cond_true, cond_false]) (by rw [HG.out]; exact j4.out) hM.out (by rw [HG.out]; exact fun _ _ h => h) (by rw [HG.out]; exact ⟨fun h => absurd h (by decide), fun h => absurd h (by decide), fun h => absurd h (by decide), fun h => absurd h (by decide), fun _ _ _ _ => E38.out.symm⟩))
            · intro bf ac wv hfb haf hJ K' hK
              obtain ⟨vs, rfl, hM, j4⟩ := hJ
              replace hK := Lib.hid hK
              replace hM := Lib.hid hM
              rw [HG.out] at j4
              simp [Region.binds] at haf
              have e36 := ((j4 36 (by simp [haf])).2.2.2.2 (by decide) (by decide) (by decide) (by decide)).trans E36.out
              have e38 := ((j4 38 (by simp [haf])).2.2.2.2 (by decide) (by decide) (by decide) (by decide)).trans E38.out
              replace j4 := Lib.hid j4
              clear haf hfb
              rw [HLIT.out]
              go_simp
              exact hK.out _ _ (RS.next (wv := wv) (vs := vs) 39 (x := .bool true) (by rw [HLIT.out]; simp only [upv, e36, e38, Nat.reduceBEq, cond_true, cond_false]) (by rw [HG.out]; exact j4.out) hM.out (by rw [HG.out]; exact fun _ _ h => h) (by rw [HG.out]; exact ⟨fun h => absurd h (by decide), fun h => absurd h (by decide), fun h => absurd h (by decide), fun h => absurd h (by decide), fun _ _ _ _ => E39.out.symm⟩))
            · intro bf ac wv hfb haf hJ K' hK
              obtain ⟨vs, rfl, hM, j4⟩ := hJ
              replace hK := Lib.hid hK
              replace hM := Lib.hid hM
              rw [HG.out] at j4
              simp [Region.binds] at haf
              have e39 := ((j4 39 (by simp [haf])).2.2.2.2 (by decide) (by decide) (by decide) (by decide)).trans E39.out
              replace j4 := Lib.hid j4
              clear haf hfb
              rw [HLIT.out]
              go_simp
              exact hK.out _ _ (RS.next (wv := wv) (vs := vs) 40 (x := .bool true) (by rw [HLIT.out]; simp only [upv, e39, Nat.reduceBEq, cond_true, cond_false]) (by rw [HG.out]; exact j4.out) hM.out (by rw [HG.out]; exact fun _ _ h => h) (by rw [HG.out]; exact ⟨fun h => absurd h (by decide), fun h => absurd h (by decide), fun h => absurd h (by decide), fun h => absurd h (by decide), fun _ _ _ _ => E40.out.symm⟩))
            · intro bf ac wv hfb haf hJ K' hK
              obtain ⟨vs, rfl, hM, j4⟩ := hJ
              replace hK := Lib.hid hK
              replace hM := Lib.hid hM
              rw [HG.out] at j4
              simp [Region.binds] at haf
              have e40 := ((j4 40 (by simp [haf])).2.2.2.2 (by decide) (by decide) (by decide) (by decide)).trans E40.out
              replace j4 := Lib.hid j4
              clear haf hfb
              rw [HLIT.out]
              go_simp
              exact hK.out _ _ (RS.next (wv := wv) (vs := vs) 41 (x := .int .i64 0) (by rw [HLIT.out]; simp only [upv, e40, Nat.reduceBEq, cond_true, cond_false]) (by rw [HG.out]; exact j4.out) hM.out (by rw [HG.out]; exact fun _ _ h => h) (by rw [HG.out]; exact ⟨fun h => absurd h (by decide), fun h => absurd h (by decide), fun h => absurd h (by decide), fun h => absurd h (by decide), fun _ _ _ _ => E41.out.symm⟩))
            · intro bf ac wv hfb haf hJ K' hK
              obtain ⟨vs, rfl, hM, j4⟩ := hJ
              replace hK := Lib.hid hK
              replace hM := Lib.hid hM
              rw [HG.out] at j4
              simp [Region.binds] at haf
              have e40 := ((j4 40 (by simp [haf])).2.2.2.2 (by decide) (by decide) (by decide) (by decide)).trans E40.out
              have e41 := ((j4 41 (by simp [haf])).2.2.2.2 (by decide) (by decide) (by decide) (by decide)).trans E41.out
              replace j4 := Lib.hid j4
              clear haf hfb
              rw [HLIT.out]
              go_simp
              exact hK.out _ _ (RS.next (wv := wv) (vs := vs) 42 (x := .bool true) (by rw [HLIT.out]; simp only [upv, e40, e41, Nat.reduceBEq, cond_true, cond_false]) (by rw [HG.out]; exact j4.out) hM.out (by rw [HG.out]; exact fun _ _ h => h) (by rw [HG.out]; exact ⟨fun h => absurd h (by decide), fun h => absurd h (by decide), fun h => absurd h (by decide), fun h => absurd h (by decide), fun _ _ _ _ => E42.out.symm⟩))
            · intro bf ac wv hfb haf hJ K' hK
              obtain ⟨vs, rfl, hM, j4⟩ := hJ
              replace hK := Lib.hid hK
              replace hM := Lib.hid hM
              rw [HG.out] at j4
              simp [Region.binds] at haf
              have e40 := ((j4 40 (by simp [haf])).2.2.2.2 (by decide) (by decide) (by decide) (by decide)).trans E40.out
              have e42 := ((j4 42 (by simp [haf])).2.2.2.2 (by decide) (by decide) (by decide) (by decide)).trans E42.out
              replace j4 := Lib.hid j4
              clear haf hfb
              rw [HLIT.out]
              go_simp
              exact hK.out _ _ (RS.next (wv := wv) (vs := vs) 43 (x := .bool true) (by rw [HLIT.out]; simp only [upv, e40, e42, Nat.reduceBEq, cond_true, cond_false]) (by rw [HG.out]; exact j4.out) hM.out (by rw [HG.out]; exact fun _ _ h => h) (by rw [HG.out]; exact ⟨fun h => absurd h (by decide), fun h => absurd h (by decide), fun h => absurd h (by decide), fun h => absurd h (by decide), fun _ _ _ _ => E43.out.symm⟩))
            · intro bf ac wv hfb haf hJ K' hK
              obtain ⟨vs, rfl, hM, j4⟩ := hJ
              replace hK := Lib.hid hK
              replace hM := Lib.hid hM
              rw [HG.out] at j4
              simp [Region.binds] at haf
              have e43 := ((j4 43 (by simp [haf])).2.2.2.2 (by decide) (by decide) (by decide) (by decide)).trans E43.out
              replace j4 := Lib.hid j4
              clear haf hfb
              rw [HLIT.out]
              go_simp
              exact hK.out _ _ (RS.next (wv := wv) (vs := vs) 44 (x := .bool true) (by rw [HLIT.out]; simp only [upv, e43, Nat.reduceBEq, cond_true, cond_false]) (by rw [HG.out]; exact j4.out) hM.out (by rw [HG.out]; exact fun _ _ h => h) (by rw [HG.out]; exact ⟨fun h => absurd h (by decide), fun h => absurd h (by decide), fun h => absurd h (by decide), fun h => absurd h (by decide), fun _ _ _ _ => E44.out.symm⟩))
            · intro bf ac wv hfb haf hJ K' hK
              obtain ⟨vs, rfl, hM, j4⟩ := hJ
              replace hK := Lib.hid hK
              replace hM := Lib.hid hM
              rw [HG.out] at j4
              simp [Region.binds] at haf
              have e44 := ((j4 44 (by simp [haf])).2.2.2.2 (by decide) (by decide) (by decide) (by decide)).trans E44.out
              replace j4 := Lib.hid j4
              clear haf hfb
              rw [HLIT.out]
              go_simp
              exact hK.out _ _ (RS.next (wv := wv) (vs := vs) 45 (x := .slice ja 5 jc) (by rw [HLIT.out]; simp only [upv, e44, Nat.reduceBEq, cond_true, cond_false]) (by rw [HG.out]; exact j4.out) hM.out (by rw [HG.out]; exact fun _ _ h => h) (by rw [HG.out]; exact ⟨fun h => absurd h (by decide), fun h => absurd h (by decide), fun h => absurd h (by decide), fun h => absurd h (by decide), fun _ _ _ _ => E45.out.symm⟩))
            · intro bf ac wv hfb haf hJ K' hK
              obtain ⟨vs, rfl, hM, j4⟩ := hJ
              replace hK := Lib.hid hK
              replace hM := Lib.hid hM
              rw [HG.out] at j4
              simp [Region.binds] at haf
              have e44 := ((j4 44 (by simp [haf])).2.2.2.2 (by decide) (by decide) (by decide) (by decide)).trans E44.out
              replace j4 := Lib.hid j4
              clear haf hfb
              rw [HLIT.out]
              go_simp
              have b4 := al wv (.cells #[.int .i64 1, .int .i64 2, .int .i64 3, .int .i64 4, .int .i64 5] 3)
              exact hK.out _ _ (RS.next (wv := wv) (vs := vs) 46 (x := .slice (some ⟨wv.heap.size, 0, none⟩) 5 5) (by rw [HLIT.out]; simp only [upv, e44, Nat.reduceBEq, cond_true, cond_false]) (by rw [HG.out]; exact j4.out) (keep2 b4 hM.out) (by rw [HG.out]; exact fun k v h => ⟨fun q => (h.1 q).step b4, fun q => (h.2.1 q).step b4, fun q => (h.2.2.1 q).step b4, fun q => (h.2.2.2.1 q).step b4, h.2.2.2.2⟩) (by rw [HG.out]; exact ⟨fun h => absurd h (by decide), fun h => absurd h (by decide), fun _ => ints_lit wv [1, 2, 3, 4, 5] #[.int .i64 1, .int .i64 2, .int .i64 3, .int .i64 4, .int .i64 5] 3 rfl (by simp) 5 rfl _ rfl, fun h => absurd h (by decide), fun h28 => fun h29 => fun h46 => absurd rfl h46⟩))
            · intro bf ac wv hfb haf hJ K' hK
              obtain ⟨vs, rfl, hM, j4⟩ := hJ
              replace hK := Lib.hid hK
              replace hM := Lib.hid hM
              rw [HG.out] at j4
              simp [Region.binds] at haf
              have e44 := ((j4 44 (by simp [haf])).2.2.2.2 (by decide) (by decide) (by decide) (by decide)).trans E44.out
              have e45 := ((j4 45 (by simp [haf])).2.2.2.2 (by decide) (by decide) (by decide) (by decide)).trans E45.out
              have e46 := (j4 46 (by simp [haf])).2.2.1 rfl
              replace j4 := Lib.hid j4
              clear haf hfb
              rw [HLIT.out]
              go_simp
              go_at_call 21
              refine (ints_bel _ _ [1, 2, 3, 4, 5] [1, 2, 3, 4, 5] wv (H220.out.step hM.out) e46).mono ?_
              rintro e w4 ⟨rfl, b4⟩
              rw [decide_eq_true (rfl : ([1, 2, 3, 4, 5] : List Int) = [1, 2, 3, 4, 5])]
              exact hK.out _ _ (RS.next (wv := wv) (vs := vs) 47 (x := .bool true) (by rw [HLIT.out]; simp only [upv, e44, e45, Nat.reduceBEq, cond_true, cond_false]) (by rw [HG.out]; exact j4.out) (keep2 b4 hM.out) (by rw [HG.out]; exact fun k v h => ⟨fun q => (h.1 q).step b4, fun q => (h.2.1 q).step b4, fun q => (h.2.2.1 q).step b4, fun q => (h.2.2.2.1 q).step b4, h.2.2.2.2⟩) (by rw [HG.out]; exact ⟨fun h => absurd h (by decide), fun h => absurd h (by decide), fun h => absurd h (by decide), fun h => absurd h (by decide), fun _ _ _ _ => E47.out.symm⟩))
            · intro bf ac wv hfb haf hJ K' hK
              obtain ⟨vs, rfl, hM, j4⟩ := hJ
              replace hK := Lib.hid hK
              replace hM := Lib.hid hM
              rw [HG.out] at j4
              simp [Region.binds] at haf
              have e44 := ((j4 44 (by simp [haf])).2.2.2.2 (by decide) (by decide) (by decide) (by decide)).trans E44.out
              have e47 := ((j4 47 (by simp [haf])).2.2.2.2 (by decide) (by decide) (by decide) (by decide)).trans E47.out
              replace j4 := Lib.hid j4
              clear haf hfb
              rw [HLIT.out]
              go_simp
              exact hK.out _ _ (RS.next (wv := wv) (vs := vs) 48 (x := .bool true) (by rw [HLIT.out]; simp only [upv, e44, e47, Nat.reduceBEq, cond_true, cond_false]) (by rw [HG.out]; exact j4.out) hM.out (by rw [HG.out]; exact fun _ _ h => h) (by rw [HG.out]; exact ⟨fun h => absurd h (by decide), fun h => absurd h (by decide), fun h => absurd h (by decide), fun h => absurd h (by decide), fun _ _ _ _ => E48.out.symm⟩))
            · intro bf ac wv hfb haf hJ K' hK
              obtain ⟨vs, rfl, hM, j4⟩ := hJ
              replace hK := Lib.hid hK
              replace hM := Lib.hid hM
              rw [HG.out] at j4
              simp [Region.binds] at haf
              have e48 := ((j4 48 (by simp [haf])).2.2.2.2 (by decide) (by decide) (by decide) (by decide)).trans E48.out
              replace j4 := Lib.hid j4
              clear haf hfb
              rw [HLIT.out]
              go_simp
              exact hK.out _ _ (RS.next (wv := wv) (vs := vs) 49 (x := .bool true) (by rw [HLIT.out]; simp only [upv, e48, Nat.reduceBEq, cond_true, cond_false]) (by rw [HG.out]; exact j4.out) hM.out (by rw [HG.out]; exact fun _ _ h => h) (by rw [HG.out]; exact ⟨fun h => absurd h (by decide), fun h => absurd h (by decide), fun h => absurd h (by decide), fun h => absurd h (by decide), fun _ _ _ _ => E49.out.symm⟩))
            · intro bf ac wv hfb haf hJ K' hK
              obtain ⟨vs, rfl, hM, j4⟩ := hJ
              replace hK := Lib.hid hK
              replace hM := Lib.hid hM
              rw [HG.out] at j4
              simp [Region.binds] at haf
              have e49 := ((j4 49 (by simp [haf])).2.2.2.2 (by decide) (by decide) (by decide) (by decide)).trans E49.out
              replace j4 := Lib.hid j4
              clear haf hfb
              rw [HLIT.out]
              go_simp
              exact hK.out _ _ (RS.next (wv := wv) (vs := vs) 50 (x := .pointer (some ⟨(u1.heap.size), 4, none⟩)) (by rw [HLIT.out]; simp only [upv, e49, Nat.reduceBEq, cond_true, cond_false]) (by rw [HG.out]; exact j4.out) hM.out (by rw [HG.out]; exact fun _ _ h => h) (by rw [HG.out]; exact ⟨fun h => absurd h (by decide), fun h => absurd h (by decide), fun h => absurd h (by decide), fun h => absurd h (by decide), fun _ _ _ _ => E50.out.symm⟩))
            · intro bf ac wv hfb haf hJ K' hK
              obtain ⟨vs, rfl, hM, j4⟩ := hJ
              replace hK := Lib.hid hK
              replace hM := Lib.hid hM
              rw [HG.out] at j4
              simp [Region.binds] at haf
              have e49 := ((j4 49 (by simp [haf])).2.2.2.2 (by decide) (by decide) (by decide) (by decide)).trans E49.out
              have e50 := ((j4 50 (by simp [haf])).2.2.2.2 (by decide) (by decide) (by decide) (by decide)).trans E50.out
              replace j4 := Lib.hid j4
              clear haf hfb
              have K1m := H208.out.step hM.out
              have xm4 := K1m.c 4 rfl
              have xzm := K1m.2.2
              clear K1m
              rw [HLIT.out]
              go_simp
              exact hK.out _ _ (RS.next (wv := wv) (vs := vs) 51 (x := .int .i64 1453941846) (by rw [HLIT.out]; simp only [upv, e49, e50, Nat.reduceBEq, cond_true, cond_false]) (by rw [HG.out]; exact j4.out) hM.out (by rw [HG.out]; exact fun _ _ h => h) (by rw [HG.out]; exact ⟨fun h => absurd h (by decide), fun h => absurd h (by decide), fun h => absurd h (by decide), fun h => absurd h (by decide), fun _ _ _ _ => E51.out.symm⟩))
            · intro bf ac wv hfb haf hJ K' hK
              obtain ⟨vs, rfl, hM, j4⟩ := hJ
              replace hK := Lib.hid hK
              replace hM := Lib.hid hM
              rw [HG.out] at j4
              simp [Region.binds] at haf
              have e49 := ((j4 49 (by simp [haf])).2.2.2.2 (by decide) (by decide) (by decide) (by decide)).trans E49.out
              replace j4 := Lib.hid j4
              clear haf hfb
              rw [HLIT.out]
              go_simp
              exact hK.out _ _ (RS.next (wv := wv) (vs := vs) 52 (x := .pointer (some ⟨(u1.heap.size), 3, none⟩)) (by rw [HLIT.out]; simp only [upv, e49, Nat.reduceBEq, cond_true, cond_false]) (by rw [HG.out]; exact j4.out) hM.out (by rw [HG.out]; exact fun _ _ h => h) (by rw [HG.out]; exact ⟨fun h => absurd h (by decide), fun h => absurd h (by decide), fun h => absurd h (by decide), fun h => absurd h (by decide), fun _ _ _ _ => E52.out.symm⟩))
            · intro bf ac wv hfb haf hJ K' hK
              obtain ⟨vs, rfl, hM, j4⟩ := hJ
              replace hK := Lib.hid hK
              replace hM := Lib.hid hM
              rw [HG.out] at j4
              simp [Region.binds] at haf
              have e49 := ((j4 49 (by simp [haf])).2.2.2.2 (by decide) (by decide) (by decide) (by decide)).trans E49.out
              have e52 := ((j4 52 (by simp [haf])).2.2.2.2 (by decide) (by decide) (by decide) (by decide)).trans E52.out
              replace j4 := Lib.hid j4
              clear haf hfb
              have K1m := H208.out.step hM.out
              have xm3 := K1m.c 3 rfl
              have xzm := K1m.2.2
              clear K1m
              rw [HLIT.out]
              go_simp
              exact hK.out _ _ (RS.next (wv := wv) (vs := vs) 53 (x := .int .i64 49659217) (by rw [HLIT.out]; simp only [upv, e49, e52, Nat.reduceBEq, cond_true, cond_false]) (by rw [HG.out]; exact j4.out) hM.out (by rw [HG.out]; exact fun _ _ h => h) (by rw [HG.out]; exact ⟨fun h => absurd h (by decide), fun h => absurd h (by decide), fun h => absurd h (by decide), fun h => absurd h (by decide), fun _ _ _ _ => E53.out.symm⟩))
            · intro bf ac wv hfb haf hJ K' hK
              obtain ⟨vs, rfl, hM, j4⟩ := hJ
              replace hK := Lib.hid hK
              replace hM := Lib.hid hM
              rw [HG.out] at j4
              simp [Region.binds] at haf
              have e49 := ((j4 49 (by simp [haf])).2.2.2.2 (by decide) (by decide) (by decide) (by decide)).trans E49.out
              have e53 := ((j4 53 (by simp [haf])).2.2.2.2 (by decide) (by decide) (by decide) (by decide)).trans E53.out
              replace j4 := Lib.hid j4
              clear haf hfb
              rw [HLIT.out]
              go_simp
              have b4 := al wv (.cells #[.int .i64 4, .int .i64 3, .int .i64 2, .int .i64 49659217] 3)
              exact hK.out _ _ (RS.next (wv := wv) (vs := vs) 54 (x := .slice (some ⟨wv.heap.size, 0, none⟩) 4 4) (by rw [HLIT.out]; simp only [upv, e49, e53, Nat.reduceBEq, cond_true, cond_false]) (by rw [HG.out]; exact j4.out) (keep2 b4 hM.out) (by rw [HG.out]; exact fun k v h => ⟨fun q => (h.1 q).step b4, fun q => (h.2.1 q).step b4, fun q => (h.2.2.1 q).step b4, fun q => (h.2.2.2.1 q).step b4, h.2.2.2.2⟩) (by rw [HG.out]; exact ⟨fun h => absurd h (by decide), fun h => absurd h (by decide), fun h => absurd h (by decide), fun _ => ints_lit wv [4, 3, 2, 49659217] #[.int .i64 4, .int .i64 3, .int .i64 2, .int .i64 49659217] 3 rfl (by simp) 4 rfl _ rfl, fun h28 => fun h29 => fun h46 => fun h54 => absurd rfl h54⟩))
            · intro bf ac wv hfb haf hJ K' hK
              obtain ⟨vs, rfl, hM, j4⟩ := hJ
              replace hK := Lib.hid hK
              replace hM := Lib.hid hM
              rw [HG.out] at j4
              simp [Region.binds] at haf
              have e49 := ((j4 49 (by simp [haf])).2.2.2.2 (by decide) (by decide) (by decide) (by decide)).trans E49.out
              have e54 := (j4 54 (by simp [haf])).2.2.2.1 rfl
              replace j4 := Lib.hid j4
              clear haf hfb
              rw [HLIT.out]
              go_simp
              go_at_call 30
              refine (HTG.out _ _ e54).mono ?_
              rintro e w4 ⟨rfl, b4⟩
              exact hK.out _ _ (RS.next (wv := wv) (vs := vs) 55 (x := .int .i64 1453941846) (by rw [HLIT.out]; simp only [upv, e49, Nat.reduceBEq, cond_true, cond_false]) (by rw [HG.out]; exact j4.out) (keep2 b4 hM.out) (by rw [HG.out]; exact fun k v h => ⟨fun q => (h.1 q).step b4, fun q => (h.2.1 q).step b4, fun q => (h.2.2.1 q).step b4, fun q => (h.2.2.2.1 q).step b4, h.2.2.2.2⟩) (by rw [HG.out]; exact ⟨fun h => absurd h (by decide), fun h => absurd h (by decide), fun h => absurd h (by decide), fun h => absurd h (by decide), fun _ _ _ _ => E55.out.symm⟩))
            · intro bf ac wv hfb haf hJ K' hK
              obtain ⟨vs, rfl, hM, j4⟩ := hJ
              replace hK := Lib.hid hK
              replace hM := Lib.hid hM
              rw [HG.out] at j4
              simp [Region.binds] at haf
              have e49 := ((j4 49 (by simp [haf])).2.2.2.2 (by decide) (by decide) (by decide) (by decide)).trans E49.out
              have e51 := ((j4 51 (by simp [haf])).2.2.2.2 (by decide) (by decide) (by decide) (by decide)).trans E51.out
              have e55 := ((j4 55 (by simp [haf])).2.2.2.2 (by decide) (by decide) (by decide) (by decide)).trans E55.out
              replace j4 := Lib.hid j4
              clear haf hfb
              rw [HLIT.out]
              go_simp
              exact hK.out _ _ (RS.next (wv := wv) (vs := vs) 56 (x := .bool true) (by rw [HLIT.out]; simp only [upv, e49, e51, e55, Nat.reduceBEq, cond_true, cond_false]) (by rw [HG.out]; exact j4.out) hM.out (by rw [HG.out]; exact fun _ _ h => h) (by rw [HG.out]; exact ⟨fun h => absurd h (by decide), fun h => absurd h (by decide), fun h => absurd h (by decide), fun h => absurd h (by decide), fun _ _ _ _ => E56.out.symm⟩))
            · intro bf ac wv hfb haf hJ K' hK
              obtain ⟨vs, rfl, hM, j4⟩ := hJ
              replace hK := Lib.hid hK
              replace hM := Lib.hid hM
              rw [HG.out] at j4
              simp [Region.binds] at haf
              have e49 := ((j4 49 (by simp [haf])).2.2.2.2 (by decide) (by decide) (by decide) (by decide)).trans E49.out
              have e56 := ((j4 56 (by simp [haf])).2.2.2.2 (by decide) (by decide) (by decide) (by decide)).trans E56.out
              replace j4 := Lib.hid j4
              clear haf hfb
              rw [HLIT.out]
              go_simp
              exact hK.out _ _ (RS.next (wv := wv) (vs := vs) 57 (x := .bool true) (by rw [HLIT.out]; simp only [upv, e49, e56, Nat.reduceBEq, cond_true, cond_false]) (by rw [HG.out]; exact j4.out) hM.out (by rw [HG.out]; exact fun _ _ h => h) (by rw [HG.out]; exact ⟨fun h => absurd h (by decide), fun h => absurd h (by decide), fun h => absurd h (by decide), fun h => absurd h (by decide), fun _ _ _ _ => E57.out.symm⟩))
            · intro bf ac wv hfb haf hJ K' hK
              obtain ⟨vs, rfl, hM, j4⟩ := hJ
              replace hK := Lib.hid hK
              replace hM := Lib.hid hM
              rw [HG.out] at j4
              simp [Region.binds] at haf
              have e57 := ((j4 57 (by simp [haf])).2.2.2.2 (by decide) (by decide) (by decide) (by decide)).trans E57.out
              replace j4 := Lib.hid j4
              clear haf hfb
              rw [HLIT.out]
              go_simp
              exact hK.out _ _ (RS.next (wv := wv) (vs := vs) 58 (x := .bool true) (by rw [HLIT.out]; simp only [upv, e57, Nat.reduceBEq, cond_true, cond_false]) (by rw [HG.out]; exact j4.out) hM.out (by rw [HG.out]; exact fun _ _ h => h) (by rw [HG.out]; exact ⟨fun h => absurd h (by decide), fun h => absurd h (by decide), fun h => absurd h (by decide), fun h => absurd h (by decide), fun _ _ _ _ => E58.out.symm⟩))
          · intro bf ac wv hall hJ
            obtain ⟨vs, rfl, hM, j4⟩ := hJ
            rw [HG.out] at j4
            have e58 := ((j4 58 (hall 58 (by decide))).2.2.2.2 (by decide) (by decide) (by decide) (by decide)).trans E58.out
            have HBV := Lib.hid (keep2 hM H219.out)
            clear hM hall j4
            rw [HLIT.out]
            dsimp only
            rw [e58]
            go_wp2
            go_ret
            exact ⟨rfl, HBV.out⟩
end Go.Proofs.Yteodafhgfcbdpaa
