import Derived.Test.YtnanndmpbecdiaaPa
import Derived.Test.YtnanndmpbecdiaaQc
namespace Go.Proofs.Ytnanndmpbecdiaa
open Go.RowKit

theorem ex1 : EW [zV, zV, zV] [true, true, true] 0 10 50 [⟨1, 0, 60⟩, ⟨1, 0, 60⟩, ⟨1, 0, 60⟩] 0 1 60 0 := by
  have h := EW.ok (L := [zV, zV, zV]) (A := [true, true, true]) (hub := 0) (now := 10) (len := 50) 0 1 (10 + 50) (PW.ok (L := [zV, zV, zV]) (A := [true, true, true]) (hub := 0) (now := 10) (len := 50) 1 (by decide +kernel) (by decide +kernel) (by decide +kernel) (by decide +kernel)) (by decide +kernel)
  exact h
theorem ex2 : EW [⟨1, 0, 60⟩, ⟨1, 0, 60⟩, ⟨1, 0, 60⟩] [true, true, true] 1 60 50 [⟨2, 1, 110⟩, ⟨2, 1, 110⟩, ⟨2, 1, 110⟩] 1 2 110 0 := by
  have h := EW.ok (L := [⟨1, 0, 60⟩, ⟨1, 0, 60⟩, ⟨1, 0, 60⟩]) (A := [true, true, true]) (hub := 1) (now := 60) (len := 50) 1 2 (60 + 50) (PW.ok (L := [⟨1, 0, 60⟩, ⟨1, 0, 60⟩, ⟨1, 0, 60⟩]) (A := [true, true, true]) (hub := 1) (now := 60) (len := 50) 2 (by decide +kernel) (by decide +kernel) (by decide +kernel) (by decide +kernel)) (by decide +kernel)
  exact h
theorem rw1 : RW (-1) (List.replicate 16 false) 0 [0] 0 1 2 0 1 (accT (-1) (List.replicate 16 false) 1) (accL (-1) (List.replicate 16 false) 1) 2 [1] 1 true 0 :=
  .did (by decide +kernel) (by decide +kernel) (by decide +kernel) wf_new (.inl (by decide)) (by decide)
theorem rcv1 (rs ru : Value) (w : World) (hs : BosAt w rs (List.replicate 16 false)) (hv : IntsAt w ru [0]) : Calls Try.prog 7 #[.agg #[.int .i64 (-1), rs, .int .i64 0, ru, .int .i64 0], .agg #[.int .i64 1, .int .i64 2, .int .i64 0, .int .i64 1]] w fun e w' =>
      ∃ (ga va : Option Addr) (gc vc : Nat), e = .returned (.tuple #[.agg #[.int .i64 1, .slice ga 16 gc, .int .i64 2, .slice va 1 vc, .int .i64 1], .bool true, .int .i64 0]) ∧ BosAt w' (.slice ga 16 gc) (accL (-1) (List.replicate 16 false) 1) ∧ IntsAt w' (.slice va 1 vc) [1] ∧ Below w.heap.size w w' := by
  refine (receive_is rw1 rs ru w hs hv (by decide) (by decide)).mono ?_
  rintro e w' ⟨cc, vc, aa, va, rfl, -, h1, h2, h3, -, -⟩
  have e1 : (accL (-1) (List.replicate 16 false) 1).length = 16 := by decide +kernel
  have e2 : accT (-1) (List.replicate 16 false) 1 = 1 := by decide +kernel
  rw [e1] at h1 ⊢
  rw [e2]
  exact ⟨aa, va, cc, vc, rfl, h1, h2, h3⟩
theorem rw2 : RW 1 (accL (-1) (List.replicate 16 false) 1) 2 [1] 1 0 1 0 2 1 (accL (-1) (List.replicate 16 false) 1) 2 [1] 1 false 23 :=
  .low (by decide +kernel) (by decide +kernel) (by decide +kernel) (by have h := wf_acc 1 wf_new; rw [show accT (-1) (List.replicate 16 false) 1 = 1 by decide +kernel] at h; exact h) (.inr (by decide +kernel)) (by decide)
theorem rcv2 (s v : Value) (w : World) (hs : BosAt w s (accL (-1) (List.replicate 16 false) 1)) (hv : IntsAt w v [1]) : Calls Try.prog 7 #[.agg #[.int .i64 1, s, .int .i64 2, v, .int .i64 1], .agg #[.int .i64 0, .int .i64 1, .int .i64 0, .int .i64 2]] w fun e w' =>
      ∃ (ua va : Option Addr) (uc vc : Nat), e = .returned (.tuple #[.agg #[.int .i64 1, .slice ua 16 uc, .int .i64 2, .slice va 1 vc, .int .i64 1], .bool false, .int .i64 23]) ∧ Below w.heap.size w w' := by
  refine (receive_is rw2 s v w hs hv (by decide +kernel) (by decide)).mono ?_
  rintro e w' ⟨cc, vc, aa, va, rfl, -, h1, h2, h3, -, -⟩
  have e1 : (accL (-1) (List.replicate 16 false) 1).length = 16 := by decide +kernel
  rw [e1]
  exact ⟨aa, va, cc, vc, rfl, h3⟩
theorem since1 (w : World) : Calls Try.prog 9 #[.int .i64 100, .int .i64 1000] w fun e w' => e = .returned (.tuple #[.agg #[.int .i64 100, .int .i64 100], .int .i64 0]) ∧ Below w.heap.size w w' := by
  have h := since_any 100 1000 w
  rw [show sLo 100 1000 = 100 by decide +kernel, show sHi 100 1000 = 100 by decide +kernel, show sEr 100 1000 = 0 by decide +kernel] at h
  exact h
set_option maxRecDepth 100000 in
set_option maxHeartbeats 16000000 in
theorem leased_any (w : World) : Calls Try.prog 4 #[] w fun e w' => e = .returned (.bool true) ∧ Below w.heap.size w w' := by
  have hmk := hmk3
  have HB0 := Lib.hid (Below.refl w.heap.size w)
  go_enter Try.func4, Try.ntmps4
  have FA_1 := Lib.hid (bos_lit w [true, true, true] #[.bool true, .bool true, .bool true] 4 rfl (by decide) 3 rfl (w.heap.size) (by simp))
  have HB2 : Hid (Below w.heap.size w (w.alloc (.cells #[.bool true, .bool true, .bool true] 4))) := HB0.out.alloc HB0.out.size _
  clear HB0
  have FA_3 := Lib.hid (FA_1.out.step (al (w.alloc (.cells #[.bool true, .bool true, .bool true] 4)) (.cells #[.int .i64 0, .int .i64 0, .int .i64 0, .int .i64 0, .int .i64 0, .int .i64 0, .int .i64 0, .int .i64 0, .int .i64 0] 64)))
  clear FA_1
  have FZ_4 := Lib.hid (vos_lit (w.alloc (.cells #[.bool true, .bool true, .bool true] 4)) [zV, zV, zV] #[.int .i64 0, .int .i64 0, .int .i64 0, .int .i64 0, .int .i64 0, .int .i64 0, .int .i64 0, .int .i64 0, .int .i64 0] 64 rfl (by decide) 3 rfl (w.heap.size + 1) (by simp))
  have HB5 : Hid (Below w.heap.size w ((w.alloc (.cells #[.bool true, .bool true, .bool true] 4)).alloc (.cells #[.int .i64 0, .int .i64 0, .int .i64 0, .int .i64 0, .int .i64 0, .int .i64 0, .int .i64 0, .int .i64 0, .int .i64 0] 64))) := HB2.out.alloc HB2.out.size _
  clear HB2
  go_wp2_with fail
  refine (elect_any ex1 (.slice (some ⟨w.heap.size + 1, 0, none⟩) 3 3) (.slice (some ⟨w.heap.size, 0, none⟩) 3 3) _ FZ_4.out FA_3.out).mono ?_
  rintro e u1 ⟨ra, rfl, hra, b1⟩
  have FA_6 := Lib.hid (FA_3.out.step b1)
  clear FA_3
  have FZ_7 := Lib.hid (FZ_4.out.step b1)
  clear FZ_4
  have HB8 := Lib.hid (keep2 b1 HB5.out)
  clear HB5 b1
  have FVra_9 := Lib.hid (hra)
  clear hra
  clear FZ_7
  have FA_10 := Lib.hid (FA_6.out.step (al u1 (.cells #[.int .i64 0, .int .i64 1, .int .i64 60] 37)))
  clear FA_6
  have FVra_11 := Lib.hid (FVra_9.out.step (al u1 (.cells #[.int .i64 0, .int .i64 1, .int .i64 60] 37)))
  clear FVra_9
  have FX_12 := Lib.hid (Cs.new u1 (u1.heap.size) #[.int .i64 0, .int .i64 1, .int .i64 60] 37 (by simp))
  have HB13 : Hid (Below w.heap.size w (u1.alloc (.cells #[.int .i64 0, .int .i64 1, .int .i64 60] 37))) := HB8.out.alloc HB8.out.size _
  clear HB8
  go_wp2_with fail
  refine (elect_any ex2 ra (.slice (some ⟨w.heap.size, 0, none⟩) 3 3) _ FVra_11.out FA_10.out).mono ?_
  rintro e u2 ⟨rb, rfl, hrb, b2⟩
  have FA_14 := Lib.hid (FA_10.out.step b2)
  clear FA_10
  have FVra_15 := Lib.hid (FVra_11.out.step b2)
  clear FVra_11
  have FX_16 := Lib.hid (FX_12.out.step b2)
  clear FX_12
  have HB17 := Lib.hid (keep2 b2 HB13.out)
  clear HB13 b2
  have FVrb_18 := Lib.hid (hrb)
  clear hrb
  clear FA_14
  clear FVra_15
  clear FVrb_18
  have FX_19 := Lib.hid (FX_16.out.step (al u2 (.cells #[.int .i64 1, .int .i64 2, .int .i64 110] 37)))
  clear FX_16
  have FY_20 := Lib.hid (Cs.new u2 (u2.heap.size) #[.int .i64 1, .int .i64 2, .int .i64 110] 37 (by simp))
  have HB21 : Hid (Below w.heap.size w (u2.alloc (.cells #[.int .i64 1, .int .i64 2, .int .i64 110] 37))) := HB17.out.alloc HB17.out.size _
  clear HB17
  have FX_22 := Lib.hid (FX_19.out.step (al (u2.alloc (.cells #[.int .i64 1, .int .i64 2, .int .i64 110] 37)) (.cells #[.int .i64 0] 3)))
  clear FX_19
  have FY_23 := Lib.hid (FY_20.out.step (al (u2.alloc (.cells #[.int .i64 1, .int .i64 2, .int .i64 110] 37)) (.cells #[.int .i64 0] 3)))
  clear FY_20
  have FI_24 := Lib.hid (ints_lit (u2.alloc (.cells #[.int .i64 1, .int .i64 2, .int .i64 110] 37)) [0] #[.int .i64 0] 3 rfl (by decide) 1 rfl (u2.heap.size + 1) (by simp))
  have HB25 : Hid (Below w.heap.size w ((u2.alloc (.cells #[.int .i64 1, .int .i64 2, .int .i64 110] 37)).alloc (.cells #[.int .i64 0] 3))) := HB21.out.alloc HB21.out.size _
  clear HB21
  have xX0 := FX_22.out.c 0 rfl
  have xX1 := FX_22.out.c 1 rfl
  have xX2 := FX_22.out.c 2 rfl
  have xzX := FX_22.out.2.2
  have xY0 := FY_23.out.c 0 rfl
  have xY1 := FY_23.out.c 1 rfl
  have xY2 := FY_23.out.c 2 rfl
  have xzY := FY_23.out.2.2
  go_wp2_with fail
  refine (newrc_ok (.slice (some ⟨u2.heap.size + 1, 0, none⟩) 1 1) [0] (by decide) _ FI_24.out (by decide)).mono ?_
  rintro e u3 ⟨sc, tc, sa, ta, rfl, -, hrs, hru, b3, -, -⟩
  clear xX0 xX1 xX2 xzX xY0 xY1 xY2 xzY
  have FX_26 := Lib.hid (FX_22.out.step b3)
  clear FX_22
  have FY_27 := Lib.hid (FY_23.out.step b3)
  clear FY_23
  have FI_28 := Lib.hid (FI_24.out.step b3)
  clear FI_24
  have HB29 := Lib.hid (keep2 b3 HB25.out)
  clear HB25 b3
  have FRS_30 := Lib.hid (hrs)
  have FRU_31 := Lib.hid (hru)
  clear hrs hru
  clear FI_28
  have FX_32 := Lib.hid (FX_26.out.step (al u3 (.cells #[.int .i64 (-1), .slice sa 16 sc, .int .i64 0, .slice ta 1 tc, .int .i64 0] 31)))
  clear FX_26
  have FY_33 := Lib.hid (FY_27.out.step (al u3 (.cells #[.int .i64 (-1), .slice sa 16 sc, .int .i64 0, .slice ta 1 tc, .int .i64 0] 31)))
  clear FY_27
  have FRS_34 := Lib.hid (FRS_30.out.step (al u3 (.cells #[.int .i64 (-1), .slice sa 16 sc, .int .i64 0, .slice ta 1 tc, .int .i64 0] 31)))
  clear FRS_30
  have FRU_35 := Lib.hid (FRU_31.out.step (al u3 (.cells #[.int .i64 (-1), .slice sa 16 sc, .int .i64 0, .slice ta 1 tc, .int .i64 0] 31)))
  clear FRU_31
  have FR_36 := Lib.hid (Cs.new u3 (u3.heap.size) #[.int .i64 (-1), .slice sa 16 sc, .int .i64 0, .slice ta 1 tc, .int .i64 0] 31 (by simp))
  have HB37 : Hid (Below w.heap.size w (u3.alloc (.cells #[.int .i64 (-1), .slice sa 16 sc, .int .i64 0, .slice ta 1 tc, .int .i64 0] 31))) := HB29.out.alloc HB29.out.size _
  clear HB29
  have xX0 := FX_32.out.c 0 rfl
  have xX1 := FX_32.out.c 1 rfl
  have xX2 := FX_32.out.c 2 rfl
  have xzX := FX_32.out.2.2
  have xY0 := FY_33.out.c 0 rfl
  have xY1 := FY_33.out.c 1 rfl
  have xY2 := FY_33.out.c 2 rfl
  have xzY := FY_33.out.2.2
  have xR0 := FR_36.out.c 0 rfl
  have xR1 := FR_36.out.c 1 rfl
  have xR2 := FR_36.out.c 2 rfl
  have xR3 := FR_36.out.c 3 rfl
  have xR4 := FR_36.out.c 4 rfl
  have xzR := FR_36.out.2.2
  go_wp2_with fail
  refine (rcv1 _ _ _ FRS_34.out FRU_35.out).mono ?_
  rintro e u4 ⟨ga, va, gc, vc, rfl, hg, hv, b4⟩
  clear xX0 xX1 xX2 xzX xY0 xY1 xY2 xzY xR0 xR1 xR2 xR3 xR4 xzR
  have FX_38 := Lib.hid (FX_32.out.step b4)
  clear FX_32
  have FY_39 := Lib.hid (FY_33.out.step b4)
  clear FY_33
  have FRS_40 := Lib.hid (FRS_34.out.step b4)
  clear FRS_34
  have FRU_41 := Lib.hid (FRU_35.out.step b4)
  clear FRU_35
  have FR_42 := Lib.hid (FR_36.out.step b4)
  clear FR_36
  have HB43 := Lib.hid (keep2 b4 HB37.out)
  clear HB37 b4
  have FG_44 := Lib.hid (hg)
  have FGV_45 := Lib.hid (hv)
  clear hg hv
  clear FRS_40
  clear FRU_41
  clear FR_42
  have FX_46 := Lib.hid (FX_38.out.step (al u4 (.cells #[.int .i64 1, .slice ga 16 gc, .int .i64 2, .slice va 1 vc, .int .i64 1] 31)))
  clear FX_38
  have FY_47 := Lib.hid (FY_39.out.step (al u4 (.cells #[.int .i64 1, .slice ga 16 gc, .int .i64 2, .slice va 1 vc, .int .i64 1] 31)))
  clear FY_39
  have FG_48 := Lib.hid (FG_44.out.step (al u4 (.cells #[.int .i64 1, .slice ga 16 gc, .int .i64 2, .slice va 1 vc, .int .i64 1] 31)))
  clear FG_44
  have FGV_49 := Lib.hid (FGV_45.out.step (al u4 (.cells #[.int .i64 1, .slice ga 16 gc, .int .i64 2, .slice va 1 vc, .int .i64 1] 31)))
  clear FGV_45
  have FS_50 := Lib.hid (Cs.new u4 (u4.heap.size) #[.int .i64 1, .slice ga 16 gc, .int .i64 2, .slice va 1 vc, .int .i64 1] 31 (by simp))
  have HB51 : Hid (Below w.heap.size w (u4.alloc (.cells #[.int .i64 1, .slice ga 16 gc, .int .i64 2, .slice va 1 vc, .int .i64 1] 31))) := HB43.out.alloc HB43.out.size _
  clear HB43
  have xX0 := FX_46.out.c 0 rfl
  have xX1 := FX_46.out.c 1 rfl
  have xX2 := FX_46.out.c 2 rfl
  have xzX := FX_46.out.2.2
  have xY0 := FY_47.out.c 0 rfl
  have xY1 := FY_47.out.c 1 rfl
  have xY2 := FY_47.out.c 2 rfl
  have xzY := FY_47.out.2.2
  have xS0 := FS_50.out.c 0 rfl
  have xS1 := FS_50.out.c 1 rfl
  have xS2 := FS_50.out.c 2 rfl
  have xS3 := FS_50.out.c 3 rfl
  have xS4 := FS_50.out.c 4 rfl
  have xzS := FS_50.out.2.2
  go_wp2_with fail
  refine (rcv2 _ _ _ FG_48.out FGV_49.out).mono ?_
  rintro e u5 ⟨ua, va2, uc, vc2, rfl, b5⟩
  clear xX0 xX1 xX2 xzX xY0 xY1 xY2 xzY xS0 xS1 xS2 xS3 xS4 xzS
  have FX_52 := Lib.hid (FX_46.out.step b5)
  clear FX_46
  have FY_53 := Lib.hid (FY_47.out.step b5)
  clear FY_47
  have FG_54 := Lib.hid (FG_48.out.step b5)
  clear FG_48
  have FGV_55 := Lib.hid (FGV_49.out.step b5)
  clear FGV_49
  have FS_56 := Lib.hid (FS_50.out.step b5)
  clear FS_50
  have HB57 := Lib.hid (keep2 b5 HB51.out)
  clear HB51 b5
  clear FG_54
  clear FGV_55
  clear FS_56
  have FX_58 := Lib.hid (FX_52.out.step (al u5 (.cells #[.int .i64 1, .slice ua 16 uc, .int .i64 2, .slice va2 1 vc2, .int .i64 1] 31)))
  clear FX_52
  have FY_59 := Lib.hid (FY_53.out.step (al u5 (.cells #[.int .i64 1, .slice ua 16 uc, .int .i64 2, .slice va2 1 vc2, .int .i64 1] 31)))
  clear FY_53
  have FT_60 := Lib.hid (Cs.new u5 (u5.heap.size) #[.int .i64 1, .slice ua 16 uc, .int .i64 2, .slice va2 1 vc2, .int .i64 1] 31 (by simp))
  have HB61 : Hid (Below w.heap.size w (u5.alloc (.cells #[.int .i64 1, .slice ua 16 uc, .int .i64 2, .slice va2 1 vc2, .int .i64 1] 31))) := HB57.out.alloc HB57.out.size _
  clear HB57
  clear FT_60
  have xX0 := FX_58.out.c 0 rfl
  have xX1 := FX_58.out.c 1 rfl
  have xX2 := FX_58.out.c 2 rfl
  have xzX := FX_58.out.2.2
  have xY0 := FY_59.out.c 0 rfl
  have xY1 := FY_59.out.c 1 rfl
  have xY2 := FY_59.out.c 2 rfl
  have xzY := FY_59.out.2.2
  go_wp2_with fail
  refine (since1 _).mono ?_
  rintro e u6 ⟨rfl, b6⟩
  clear xX0 xX1 xX2 xzX xY0 xY1 xY2 xzY
  have FX_62 := Lib.hid (FX_58.out.step b6)
  clear FX_58
  have FY_63 := Lib.hid (FY_59.out.step b6)
  clear FY_59
  have HB64 := Lib.hid (keep2 b6 HB61.out)
  clear HB61 b6
  have FX_65 := Lib.hid (FX_62.out.step (al u6 (.cells #[.int .i64 100, .int .i64 100] 50)))
  clear FX_62
  have FY_66 := Lib.hid (FY_63.out.step (al u6 (.cells #[.int .i64 100, .int .i64 100] 50)))
  clear FY_63
  have FP_67 := Lib.hid (Cs.new u6 (u6.heap.size) #[.int .i64 100, .int .i64 100] 50 (by simp))
  have HB68 : Hid (Below w.heap.size w (u6.alloc (.cells #[.int .i64 100, .int .i64 100] 50))) := HB64.out.alloc HB64.out.size _
  clear HB64
  have xX0 := FX_65.out.c 0 rfl
  have xX1 := FX_65.out.c 1 rfl
  have xX2 := FX_65.out.c 2 rfl
  have xzX := FX_65.out.2.2
  have xY0 := FY_66.out.c 0 rfl
  have xY1 := FY_66.out.c 1 rfl
  have xY2 := FY_66.out.c 2 rfl
  have xzY := FY_66.out.2.2
  have xP0 := FP_67.out.c 0 rfl
  have xP1 := FP_67.out.c 1 rfl
  have xzP := FP_67.out.2.2
  go_wp2
  go_ret
  exact ⟨rfl, HB68.out⟩
end Go.Proofs.Ytnanndmpbecdiaa
