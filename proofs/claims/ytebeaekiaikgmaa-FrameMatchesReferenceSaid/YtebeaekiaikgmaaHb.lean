/- Frames: 'head'. -/
import Derived.Test.YtebeaekiaikgmaaHa
namespace Go.Proofs.Ytebeaekiaikgmaa
open Go.RowKit

set_option maxRecDepth 100000 in
set_option maxHeartbeats 8000000 in
theorem head_any (w : World) : Calls Try.prog 10 #[] w fun e w' => e = .returned (.bool true) ∧ Below w.heap.size w w' := by
  have HB0 := Lib.hid (Below.refl w.heap.size w)
  go_enter Try.func10, Try.ntmps10
  have FF_1 := Lib.hid (Cs.new w (w.heap.size) #[.int .i64 1, .int .i64 2, .int .i64 3, .int .i64 4, .slice none 0 0, .int .i64 0] 24 (by simp))
  have HB2 : Hid (Below w.heap.size w (w.alloc (.cells #[.int .i64 1, .int .i64 2, .int .i64 3, .int .i64 4, .slice none 0 0, .int .i64 0] 24))) := HB0.out.alloc HB0.out.size _
  clear HB0
  have FF_3 := Lib.hid (FF_1.out.step (al (w.alloc (.cells #[.int .i64 1, .int .i64 2, .int .i64 3, .int .i64 4, .slice none 0 0, .int .i64 0] 24)) (.cells #[.int .i64 (-5), .int .i64 1000000000] 3)))
  clear FF_1
  have FI_4 := Lib.hid (ints_lit (w.alloc (.cells #[.int .i64 1, .int .i64 2, .int .i64 3, .int .i64 4, .slice none 0 0, .int .i64 0] 24)) [-5, 1000000000] #[.int .i64 (-5), .int .i64 1000000000] 3 rfl (by simp) 2 rfl (w.heap.size + 1) (by simp))
  have HB5 : Hid (Below w.heap.size w ((w.alloc (.cells #[.int .i64 1, .int .i64 2, .int .i64 3, .int .i64 4, .slice none 0 0, .int .i64 0] 24)).alloc (.cells #[.int .i64 (-5), .int .i64 1000000000] 3))) := HB2.out.alloc HB2.out.size _
  clear HB2
  have FF_6 := Lib.hid (FF_3.out.step (al ((w.alloc (.cells #[.int .i64 1, .int .i64 2, .int .i64 3, .int .i64 4, .slice none 0 0, .int .i64 0] 24)).alloc (.cells #[.int .i64 (-5), .int .i64 1000000000] 3)) (.cells #[.int .i64 1, .int .i64 2, .int .i64 3, .int .i64 4, .slice (some ⟨w.heap.size + 1, 0, none⟩) 2 2, .int .i64 0] 24)))
  clear FF_3
  have FI_7 := Lib.hid (FI_4.out.step (al ((w.alloc (.cells #[.int .i64 1, .int .i64 2, .int .i64 3, .int .i64 4, .slice none 0 0, .int .i64 0] 24)).alloc (.cells #[.int .i64 (-5), .int .i64 1000000000] 3)) (.cells #[.int .i64 1, .int .i64 2, .int .i64 3, .int .i64 4, .slice (some ⟨w.heap.size + 1, 0, none⟩) 2 2, .int .i64 0] 24)))
  clear FI_4
  have FG_8 := Lib.hid (Cs.new ((w.alloc (.cells #[.int .i64 1, .int .i64 2, .int .i64 3, .int .i64 4, .slice none 0 0, .int .i64 0] 24)).alloc (.cells #[.int .i64 (-5), .int .i64 1000000000] 3)) (w.heap.size + 1 + 1) #[.int .i64 1, .int .i64 2, .int .i64 3, .int .i64 4, .slice (some ⟨w.heap.size + 1, 0, none⟩) 2 2, .int .i64 0] 24 (by simp))
  have HB9 : Hid (Below w.heap.size w (((w.alloc (.cells #[.int .i64 1, .int .i64 2, .int .i64 3, .int .i64 4, .slice none 0 0, .int .i64 0] 24)).alloc (.cells #[.int .i64 (-5), .int .i64 1000000000] 3)).alloc (.cells #[.int .i64 1, .int .i64 2, .int .i64 3, .int .i64 4, .slice (some ⟨w.heap.size + 1, 0, none⟩) 2 2, .int .i64 0] 24))) := HB5.out.alloc HB5.out.size _
  clear HB5
  have xG0 := FG_8.out.c 0 rfl
  have xG1 := FG_8.out.c 1 rfl
  have xG2 := FG_8.out.c 2 rfl
  have xG3 := FG_8.out.c 3 rfl
  have xG4 := FG_8.out.c 4 rfl
  have xG5 := FG_8.out.c 5 rfl
  have xzG := FG_8.out.2.2
  go_wp2_with fail
  refine (seal_ok 9 1 2 3 4 _ [-5, 1000000000] 0 _ FI_7.out (by decide +kernel) (by decide +kernel)).mono ?_
  rintro e u1 ⟨u, rfl, hu, b1⟩
  clear xG0 xG1 xG2 xG3 xG4 xG5 xzG
  have FF_10 := Lib.hid (FF_6.out.step b1)
  clear FF_6
  have FI_11 := Lib.hid (FI_7.out.step b1)
  clear FI_7
  have FG_12 := Lib.hid (FG_8.out.step b1)
  clear FG_8
  have HB13 := Lib.hid (keep2 b1 HB9.out)
  clear HB9 b1
  rw [xT]
  have FU_14 := Lib.hid (hu)
  obtain ⟨ua, uc, rfl, -, -⟩ := hu
  rw [show ([-5, 1000000000] : List Int).length = 2 from rfl] at *
  clear FI_11
  clear FG_12
  go_wp2_with fail
  have FF_15 := Lib.hid (FF_10.out.step (al u1 (.cells #[.int .i64 1, .int .i64 2, .int .i64 3, .int .i64 4, .slice ua 2 uc, .int .i64 211727416] 24)))
  clear FF_10
  have FU_16 := Lib.hid (FU_14.out.step (al u1 (.cells #[.int .i64 1, .int .i64 2, .int .i64 3, .int .i64 4, .slice ua 2 uc, .int .i64 211727416] 24)))
  clear FU_14
  have FS_17 := Lib.hid (Cs.new u1 (u1.heap.size) #[.int .i64 1, .int .i64 2, .int .i64 3, .int .i64 4, .slice ua 2 uc, .int .i64 211727416] 24 (by simp))
  have HB18 : Hid (Below w.heap.size w (u1.alloc (.cells #[.int .i64 1, .int .i64 2, .int .i64 3, .int .i64 4, .slice ua 2 uc, .int .i64 211727416] 24))) := HB13.out.alloc HB13.out.size _
  clear HB13
  have FF_19 := Lib.hid (FF_15.out.step (al (u1.alloc (.cells #[.int .i64 1, .int .i64 2, .int .i64 3, .int .i64 4, .slice ua 2 uc, .int .i64 211727416] 24)) (.cells #[.int .i64 1, .int .i64 2, .int .i64 4, .int .i64 4, .slice ua 2 uc, .int .i64 211727416] 24)))
  clear FF_15
  have FU_20 := Lib.hid (FU_16.out.step (al (u1.alloc (.cells #[.int .i64 1, .int .i64 2, .int .i64 3, .int .i64 4, .slice ua 2 uc, .int .i64 211727416] 24)) (.cells #[.int .i64 1, .int .i64 2, .int .i64 4, .int .i64 4, .slice ua 2 uc, .int .i64 211727416] 24)))
  clear FU_16
  have FS_21 := Lib.hid (FS_17.out.step (al (u1.alloc (.cells #[.int .i64 1, .int .i64 2, .int .i64 3, .int .i64 4, .slice ua 2 uc, .int .i64 211727416] 24)) (.cells #[.int .i64 1, .int .i64 2, .int .i64 4, .int .i64 4, .slice ua 2 uc, .int .i64 211727416] 24)))
  clear FS_17
  have FD_22 := Lib.hid (Cs.new (u1.alloc (.cells #[.int .i64 1, .int .i64 2, .int .i64 3, .int .i64 4, .slice ua 2 uc, .int .i64 211727416] 24)) (u1.heap.size + 1) #[.int .i64 1, .int .i64 2, .int .i64 4, .int .i64 4, .slice ua 2 uc, .int .i64 211727416] 24 (by simp))
  have HB23 : Hid (Below w.heap.size w ((u1.alloc (.cells #[.int .i64 1, .int .i64 2, .int .i64 3, .int .i64 4, .slice ua 2 uc, .int .i64 211727416] 24)).alloc (.cells #[.int .i64 1, .int .i64 2, .int .i64 4, .int .i64 4, .slice ua 2 uc, .int .i64 211727416] 24))) := HB18.out.alloc HB18.out.size _
  clear HB18
  refine (encode_yes 1 2 3 4 _ [-5, 1000000000] 211727416 _ FU_20.out xV.1).mono ?_
  rintro e u2 ⟨ev, rfl, hev, b2⟩
  have FF_24 := Lib.hid (FF_19.out.step b2)
  clear FF_19
  have FU_25 := Lib.hid (FU_20.out.step b2)
  clear FU_20
  have FS_26 := Lib.hid (FS_21.out.step b2)
  clear FS_21
  have FD_27 := Lib.hid (FD_22.out.step b2)
  clear FD_22
  have HB28 := Lib.hid (keep2 b2 HB23.out)
  clear HB23 b2
  have hev2 := bys_of_row hev
  have FE_29 := Lib.hid (hev2)
  obtain ⟨ea, ec, rfl⟩ := row_slice hev
  clear hev hev2
  have xS0 := FS_26.out.c 0 rfl
  have xS1 := FS_26.out.c 1 rfl
  have xS2 := FS_26.out.c 2 rfl
  have xS3 := FS_26.out.c 3 rfl
  have xS4 := FS_26.out.c 4 rfl
  have xS5 := FS_26.out.c 5 rfl
  have xzS := FS_26.out.2.2
  go_wp2_with fail
  refine (xdec _ _ FE_29.out).mono ?_
  rintro e u3 ⟨u6, rfl, hu6, b3⟩
  clear xS0 xS1 xS2 xS3 xS4 xS5 xzS
  have FF_30 := Lib.hid (FF_24.out.step b3)
  clear FF_24
  have FU_31 := Lib.hid (FU_25.out.step b3)
  clear FU_25
  have FS_32 := Lib.hid (FS_26.out.step b3)
  clear FS_26
  have FD_33 := Lib.hid (FD_27.out.step b3)
  clear FD_27
  have FE_34 := Lib.hid (FE_29.out.step b3)
  clear FE_29
  have HB35 := Lib.hid (keep2 b3 HB28.out)
  clear HB28 b3
  have FU6_36 := Lib.hid (hu6)
  obtain ⟨va, vc, rfl, -, -⟩ := hu6
  rw [show ([-5, 1000000000] : List Int).length = 2 from rfl] at *
  clear FE_34
  skip
  have xF0 := FF_30.out.c 0 rfl
  have xF1 := FF_30.out.c 1 rfl
  have xF2 := FF_30.out.c 2 rfl
  have xF3 := FF_30.out.c 3 rfl
  have xF4 := FF_30.out.c 4 rfl
  have xF5 := FF_30.out.c 5 rfl
  have xzF := FF_30.out.2.2
  have yS0 := FS_32.out.c 0 rfl
  have yS1 := FS_32.out.c 1 rfl
  have yS2 := FS_32.out.c 2 rfl
  have yS3 := FS_32.out.c 3 rfl
  have yS4 := FS_32.out.c 4 rfl
  have yS5 := FS_32.out.c 5 rfl
  have yzS := FS_32.out.2.2
  have zD0 := FD_33.out.c 0 rfl
  have zD1 := FD_33.out.c 1 rfl
  have zD2 := FD_33.out.c 2 rfl
  have zD3 := FD_33.out.c 3 rfl
  have zD4 := FD_33.out.c 4 rfl
  have zD5 := FD_33.out.c 5 rfl
  have zzD := FD_33.out.2.2
  go_upto_region 7 with fail
  clear xF0 xF1 xF2 xF3 xF4 xF5 xzF yS0 yS1 yS2 yS3 yS4 yS5 yzS zD0 zD1 zD2 zD3 zD4 zD5 zzD
  have FF_37 := Lib.hid (FF_30.out.step (al u3 (.cells #[.int .i64 1, .int .i64 2, .int .i64 3, .int .i64 4, .slice va 2 vc, .int .i64 211727416] 24)))
  clear FF_30
  have FU_38 := Lib.hid (FU_31.out.step (al u3 (.cells #[.int .i64 1, .int .i64 2, .int .i64 3, .int .i64 4, .slice va 2 vc, .int .i64 211727416] 24)))
  clear FU_31
  have FS_39 := Lib.hid (FS_32.out.step (al u3 (.cells #[.int .i64 1, .int .i64 2, .int .i64 3, .int .i64 4, .slice va 2 vc, .int .i64 211727416] 24)))
  clear FS_32
  have FD_40 := Lib.hid (FD_33.out.step (al u3 (.cells #[.int .i64 1, .int .i64 2, .int .i64 3, .int .i64 4, .slice va 2 vc, .int .i64 211727416] 24)))
  clear FD_33
  have FU6_41 := Lib.hid (FU6_36.out.step (al u3 (.cells #[.int .i64 1, .int .i64 2, .int .i64 3, .int .i64 4, .slice va 2 vc, .int .i64 211727416] 24)))
  clear FU6_36
  have FX_42 := Lib.hid (Cs.new u3 (u3.heap.size) #[.int .i64 1, .int .i64 2, .int .i64 3, .int .i64 4, .slice va 2 vc, .int .i64 211727416] 24 (by simp))
  have HB43 : Hid (Below w.heap.size w (u3.alloc (.cells #[.int .i64 1, .int .i64 2, .int .i64 3, .int .i64 4, .slice va 2 vc, .int .i64 211727416] 24))) := HB35.out.alloc HB35.out.size _
  clear HB35
  obtain ⟨W7, hW7⟩ : ∃ z, (u3.alloc (.cells #[.int .i64 1, .int .i64 2, .int .i64 3, .int .i64 4, .slice va 2 vc, .int .i64 211727416] 24)) = z := ⟨_, rfl⟩
  rw [hW7] at FF_37 FU_38 FS_39 FD_40 FU6_41 FX_42 HB43 ⊢
  clear hW7
  obtain ⟨L1, hL1⟩ : ∃ z, encF 1 2 3 4 [] 0 = z := ⟨_, rfl⟩
  have HL1 := Lib.hid hL1
  have HLL := Lib.hid (show ([0, 0, 0, 1, 0, 0, 0, 2, 0, 0, 0, 3, 0, 0, 0, 4, 0, 0, 0, 0, 0, 0, 10] : List Int) = L1 by rw [← hL1]; exact xO.2.2.2.1.symm)
  clear hL1
  obtain ⟨S1, hS1⟩ : ∃ z, strOfNums L1 = z := ⟨_, rfl⟩
  have HS1 := Lib.hid hS1
  clear hS1
  have HTG := Lib.hid (fun (v : Value) (w : World) (h : IntsAt w v [1, 2, 3, 4, 2, -5, 1000000000]) => (tag_any 9 v [1, 2, 3, 4, 2, -5, 1000000000] w h (by decide) (by decide)).mono (R' := fun e w' => e = .returned (.int .i64 211727416) ∧ Below w.heap.size w w') fun e w' q => by
    rw [← xO.2.2.1]
    exact q)
  obtain ⟨lit, hlit⟩ : ∃ lit : (Nat → Value) → Act, lit = fun vs => { tmps := List.toArray (Value.bool false :: Value.pointer (some { block := w.heap.size, off := 0 }) :: Value.pointer (some { block := w.heap.size + 1 + 1, off := 0 }) :: Value.pointer (some { block := u1.heap.size, off := 0 }) :: Value.int IntKind.i64 0 :: Value.pointer (some { block := u1.heap.size + 1, off := 0 }) :: Value.pointer (some { block := u3.heap.size, off := 0 }) :: Value.int IntKind.i64 0 :: vs 41 :: undef :: undef :: undef :: undef :: undef :: undef :: undef :: undef :: undef :: undef :: undef :: undef :: Value.agg #[Value.int IntKind.i64 1, Value.int IntKind.i64 2, Value.int IntKind.i64 3, Value.int IntKind.i64 4, Value.slice none 0 0, Value.int IntKind.i64 0] :: Value.slice (some { block := w.heap.size + 1, off := 0 }) 2 2 :: Value.agg #[Value.int IntKind.i64 1, Value.int IntKind.i64 2, Value.int IntKind.i64 3, Value.int IntKind.i64 4, Value.slice (some { block := w.heap.size + 1, off := 0 }) 2 2, Value.int IntKind.i64 0] :: Value.tuple #[Value.agg #[Value.int IntKind.i64 1, Value.int IntKind.i64 2, Value.int IntKind.i64 3, Value.int IntKind.i64 4, Value.slice ua 2 uc, Value.int IntKind.i64 211727416], Value.int IntKind.i64 0] :: Value.agg #[Value.int IntKind.i64 1, Value.int IntKind.i64 2, Value.int IntKind.i64 3, Value.int IntKind.i64 4, Value.slice (some { block := w.heap.size + 1, off := 0 }) 2 2, Value.int IntKind.i64 0] :: Value.tuple #[Value.agg #[Value.int IntKind.i64 1, Value.int IntKind.i64 2, Value.int IntKind.i64 3, Value.int IntKind.i64 4, Value.slice ua 2 uc, Value.int IntKind.i64 211727416], Value.int IntKind.i64 0] :: Value.agg #[Value.int IntKind.i64 1, Value.int IntKind.i64 2, Value.int IntKind.i64 3, Value.int IntKind.i64 4, Value.slice ua 2 uc, Value.int IntKind.i64 211727416] :: Value.int IntKind.i64 0 :: Value.agg #[Value.int IntKind.i64 1, Value.int IntKind.i64 2, Value.int IntKind.i64 3, Value.int IntKind.i64 4, Value.slice ua 2 uc, Value.int IntKind.i64 211727416] :: Value.pointer (some { block := u1.heap.size + 1, off := 2 }) :: Value.tuple #[Value.agg #[Value.int IntKind.i64 1, Value.int IntKind.i64 2, Value.int IntKind.i64 3, Value.int IntKind.i64 4, Value.slice va 2 vc, Value.int IntKind.i64 211727416], Value.int IntKind.i64 0] :: Value.agg #[Value.int IntKind.i64 1, Value.int IntKind.i64 2, Value.int IntKind.i64 3, Value.int IntKind.i64 4, Value.slice ua 2 uc, Value.int IntKind.i64 211727416] :: Value.slice ea (encF 1 2 3 4 [-5, 1000000000] 211727416).length ec :: Value.tuple #[Value.agg #[Value.int IntKind.i64 1, Value.int IntKind.i64 2, Value.int IntKind.i64 3, Value.int IntKind.i64 4, Value.slice va 2 vc, Value.int IntKind.i64 211727416], Value.int IntKind.i64 0] :: Value.agg #[Value.int IntKind.i64 1, Value.int IntKind.i64 2, Value.int IntKind.i64 3, Value.int IntKind.i64 4, Value.slice va 2 vc, Value.int IntKind.i64 211727416] :: Value.int IntKind.i64 0 :: vs 0 :: vs 1 :: vs 2 :: vs 3 :: vs 4 :: vs 5 :: vs 6 :: vs 7 :: vs 8 :: vs 9 :: vs 10 :: vs 11 :: vs 12 :: vs 13 :: vs 14 :: vs 15 :: vs 16 :: vs 17 :: vs 18 :: vs 19 :: vs 20 :: vs 21 :: vs 22 :: vs 23 :: vs 24 :: vs 25 :: vs 26 :: vs 27 :: vs 28 :: vs 29 :: vs 30 :: vs 31 :: vs 32 :: vs 33 :: vs 34 :: vs 35 :: vs 36 :: vs 37 :: vs 38 :: vs 39 :: vs 40 :: undef :: undef :: undef :: undef :: undef :: undef :: undef :: undef :: undef :: undef :: undef :: undef :: undef :: undef :: undef :: undef :: undef :: undef :: undef :: undef :: undef :: undef :: undef :: undef :: undef :: undef :: undef :: undef :: undef :: undef :: undef :: undef :: undef :: undef :: undef :: undef :: undef :: undef :: undef :: undef :: undef :: undef :: undef :: undef :: undef :: undef :: undef :: undef :: undef :: undef :: undef :: undef :: undef :: undef :: undef :: undef :: undef :: undef :: undef :: undef :: undef :: undef :: undef :: undef :: undef :: undef :: undef :: undef :: undef :: undef :: undef :: undef :: undef :: undef :: undef :: undef :: undef :: undef :: undef :: undef :: undef :: undef :: undef :: undef :: undef :: undef :: undef :: undef :: undef :: undef :: undef :: undef :: undef :: undef :: undef :: undef :: undef :: undef :: undef :: undef :: undef :: undef :: undef :: undef :: undef :: undef :: undef :: undef :: undef :: []), defers := [] } := ⟨_, rfl⟩
  have HLIT := Lib.hid hlit
  clear hlit
  obtain ⟨val, hval⟩ : ∃ val : List Value, val = [.agg #[.int .i64 1, .int .i64 2, .int .i64 3, .int .i64 4, .slice none 0 0, .int .i64 0], undef, .string S1, undef, .string S1, .bool true, .bool true, .int .i64 0, .bool true, .bool true, .bool true, .agg #[.int .i64 1, .int .i64 2, .int .i64 3, .int .i64 4, .slice ua 2 uc, .int .i64 211727416], .int .i64 0, .bool true, .bool true, .bool true, .agg #[.int .i64 1, .int .i64 2, .int .i64 3, .int .i64 4, .slice ua 2 uc, .int .i64 211727416], .int .i64 15, .bool true, .bool true, .bool true, .agg #[.int .i64 1, .int .i64 2, .int .i64 4, .int .i64 4, .slice ua 2 uc, .int .i64 211727416], .int .i64 15, .bool true, .bool true, .bool true, .int .i64 0, .bool true, .bool true, .bool true, .agg #[.int .i64 1, .int .i64 2, .int .i64 3, .int .i64 4, .slice va 2 vc, .int .i64 211727416], .agg #[.int .i64 1, .int .i64 2, .int .i64 3, .int .i64 4, .slice ua 2 uc, .int .i64 211727416], .bool true, .bool true, .bool true, .pointer (some ⟨u1.heap.size, 5, none⟩), .int .i64 211727416, undef, .int .i64 211727416, .bool true, .bool true, .bool true] := ⟨_, rfl⟩
  have E0 := Lib.hid (show val.getD 0 undef = .agg #[.int .i64 1, .int .i64 2, .int .i64 3, .int .i64 4, .slice none 0 0, .int .i64 0] by rw [hval]; rfl)
  have E2 := Lib.hid (show val.getD 2 undef = .string S1 by rw [hval]; rfl)
  have E4 := Lib.hid (show val.getD 4 undef = .string S1 by rw [hval]; rfl)
  have E5 := Lib.hid (show val.getD 5 undef = .bool true by rw [hval]; rfl)
  have E6 := Lib.hid (show val.getD 6 undef = .bool true by rw [hval]; rfl)
  have E7 := Lib.hid (show val.getD 7 undef = .int .i64 0 by rw [hval]; rfl)
  have E8 := Lib.hid (show val.getD 8 undef = .bool true by rw [hval]; rfl)
  have E9 := Lib.hid (show val.getD 9 undef = .bool true by rw [hval]; rfl)
  have E10 := Lib.hid (show val.getD 10 undef = .bool true by rw [hval]; rfl)
  have E11 := Lib.hid (show val.getD 11 undef = .agg #[.int .i64 1, .int .i64 2, .int .i64 3, .int .i64 4, .slice ua 2 uc, .int .i64 211727416] by rw [hval]; rfl)
  have E12 := Lib.hid (show val.getD 12 undef = .int .i64 0 by rw [hval]; rfl)
  have E13 := Lib.hid (show val.getD 13 undef = .bool true by rw [hval]; rfl)
  have E14 := Lib.hid (show val.getD 14 undef = .bool true by rw [hval]; rfl)
  have E15 := Lib.hid (show val.getD 15 undef = .bool true by rw [hval]; rfl)
  have E16 := Lib.hid (show val.getD 16 undef = .agg #[.int .i64 1, .int .i64 2, .int .i64 3, .int .i64 4, .slice ua 2 uc, .int .i64 211727416] by rw [hval]; rfl)
  have E17 := Lib.hid (show val.getD 17 undef = .int .i64 15 by rw [hval]; rfl)
  have E18 := Lib.hid (show val.getD 18 undef = .bool true by rw [hval]; rfl)
  have E19 := Lib.hid (show val.getD 19 undef = .bool true by rw [hval]; rfl)
  have E20 := Lib.hid (show val.getD 20 undef = .bool true by rw [hval]; rfl)
  have E21 := Lib.hid (show val.getD 21 undef = .agg #[.int .i64 1, .int .i64 2, .int .i64 4, .int .i64 4, .slice ua 2 uc, .int .i64 211727416] by rw [hval]; rfl)
  have E22 := Lib.hid (show val.getD 22 undef = .int .i64 15 by rw [hval]; rfl)
  have E23 := Lib.hid (show val.getD 23 undef = .bool true by rw [hval]; rfl)
  have E24 := Lib.hid (show val.getD 24 undef = .bool true by rw [hval]; rfl)
  have E25 := Lib.hid (show val.getD 25 undef = .bool true by rw [hval]; rfl)
  have E26 := Lib.hid (show val.getD 26 undef = .int .i64 0 by rw [hval]; rfl)
  have E27 := Lib.hid (show val.getD 27 undef = .bool true by rw [hval]; rfl)
  have E28 := Lib.hid (show val.getD 28 undef = .bool true by rw [hval]; rfl)
  have E29 := Lib.hid (show val.getD 29 undef = .bool true by rw [hval]; rfl)
  have E30 := Lib.hid (show val.getD 30 undef = .agg #[.int .i64 1, .int .i64 2, .int .i64 3, .int .i64 4, .slice va 2 vc, .int .i64 211727416] by rw [hval]; rfl)
  have E31 := Lib.hid (show val.getD 31 undef = .agg #[.int .i64 1, .int .i64 2, .int .i64 3, .int .i64 4, .slice ua 2 uc, .int .i64 211727416] by rw [hval]; rfl)
  have E32 := Lib.hid (show val.getD 32 undef = .bool true by rw [hval]; rfl)
  have E33 := Lib.hid (show val.getD 33 undef = .bool true by rw [hval]; rfl)
  have E34 := Lib.hid (show val.getD 34 undef = .bool true by rw [hval]; rfl)
  have E35 := Lib.hid (show val.getD 35 undef = .pointer (some ⟨u1.heap.size, 5, none⟩) by rw [hval]; rfl)
  have E36 := Lib.hid (show val.getD 36 undef = .int .i64 211727416 by rw [hval]; rfl)
  have E38 := Lib.hid (show val.getD 38 undef = .int .i64 211727416 by rw [hval]; rfl)
  have E39 := Lib.hid (show val.getD 39 undef = .bool true by rw [hval]; rfl)
  have E40 := Lib.hid (show val.getD 40 undef = .bool true by rw [hval]; rfl)
  have E41 := Lib.hid (show val.getD 41 undef = .bool true by rw [hval]; rfl)
  clear hval
  obtain ⟨G, hG0⟩ : ∃ G : Nat → Value → World → Prop, G = (fun i v w => (i = 1 → BysAt w v L1) ∧ (i = 3 → BysAt w v L1) ∧ (i = 37 → IntsAt w v [1, 2, 3, 4, 2, -5, 1000000000]) ∧ (i ≠ 1 → i ≠ 3 → i ≠ 37 → v = val.getD i undef)) := ⟨_, rfl⟩
  have HG := Lib.hid hG0
  clear hG0
  refine region_inv (RS lit W7 G) (by kernel_rfl) (by decide +kernel) ?_ ?_ ?_
  · exact ⟨fun i => ([undef, undef, undef, undef, undef, undef, undef, undef, undef, undef, undef, undef, undef, undef, undef, undef, undef, undef, undef, undef, undef, undef, undef, undef, undef, undef, undef, undef, undef, undef, undef, undef, undef, undef, undef, undef, undef, undef, undef, undef, undef, undef] : List Value).getD i undef, (by rw [HLIT.out]; rfl), below_drew _ _, fun i h => by cases h⟩
  · refine ⟨?_, ?_, ?_, ?_, ?_, ?_, ?_, ?_, ?_, ?_, ?_, ?_, ?_, ?_, ?_, ?_, ?_, ?_, ?_, ?_, ?_, ?_, ?_, ?_, ?_, ?_, ?_, ?_, ?_, ?_, ?_, ?_, ?_, ?_, ?_, ?_, ?_, ?_, ?_, ?_, ?_, ?_, trivial⟩
    · intro bf ac wv hfb haf hJ K' hK
      obtain ⟨vs, rfl, hM, j4⟩ := hJ
      replace hK := Lib.hid hK
      replace hM := Lib.hid hM
      rw [HG.out] at j4
      replace j4 := Lib.hid j4
      clear haf hfb
      have K1 := FF_37.out.step hM.out
      have x0 := K1.c 0 rfl
      have x1 := K1.c 1 rfl
      have x2 := K1.c 2 rfl
      have x3 := K1.c 3 rfl
      have x4 := K1.c 4 rfl
      have x5 := K1.c 5 rfl
      have xz := K1.2.2
      clear K1
      rw [HLIT.out]
      go_simp
      exact hK.out _ _ (RS.next (wv := wv) (vs := vs) 0 (x := .agg #[.int .i64 1, .int .i64 2, .int .i64 3, .int .i64 4, .slice none 0 0, .int .i64 0]) (by rw [HLIT.out]; rfl) (by rw [HG.out]; exact j4.out) hM.out (by rw [HG.out]; exact fun _ _ h => h) (by rw [HG.out]; exact ⟨fun h => absurd h (by decide), fun h => absurd h (by decide), fun h => absurd h (by decide), fun _ _ _ => E0.out.symm⟩))
    · intro bf ac wv hfb haf hJ K' hK
      obtain ⟨vs, rfl, hM, j4⟩ := hJ
      replace hK := Lib.hid hK
      replace hM := Lib.hid hM
      rw [HG.out] at j4
      simp [Region.binds] at haf
      have e0 := ((j4 0 (by simp [haf])).2.2.2 (by decide) (by decide) (by decide)).trans E0.out
      replace j4 := Lib.hid j4
      clear haf hfb
      rw [HLIT.out]
      go_simp
      go_at_call 22
      refine (encode_yes 1 2 3 4 _ [] 0 _ (ints_nil _) xV.2.2.1).mono ?_
      rintro e w4 ⟨ev, rfl, hev, b4⟩
      rw [HL1.out] at hev
      have hev2 := bys_of_row hev
      obtain ⟨eva, evc, rfl⟩ := row_slice hev
      clear hev
      exact hK.out _ _ (RS.next (wv := wv) (vs := vs) 1 (x := .slice eva L1.length evc) (by rw [HLIT.out]; simp only [upv, e0, Nat.reduceBEq, cond_true, cond_false]) (by rw [HG.out]; exact j4.out) (keep2 b4 hM.out) (by rw [HG.out]; exact fun k v h => ⟨fun q => (h.1 q).step b4, fun q => (h.2.1 q).step b4, fun q => (h.2.2.1 q).step b4, h.2.2.2⟩) (by rw [HG.out]; exact ⟨fun _ => hev2, fun h => absurd h (by decide), fun h => absurd h (by decide), fun h1 => absurd rfl h1⟩))
    · intro bf ac wv hfb haf hJ K' hK
      obtain ⟨vs, rfl, hM, j4⟩ := hJ
      replace hK := Lib.hid hK
      replace hM := Lib.hid hM
      rw [HG.out] at j4
      simp [Region.binds] at haf
      have e1 := (j4 1 (by simp [haf])).1 rfl
      replace j4 := Lib.hid j4
      clear haf hfb
      have cv := conv_bys e1
      rw [HS1.out] at cv
      rw [HLIT.out]
      go_simp
      exact hK.out _ _ (RS.next (wv := wv) (vs := vs) 2 (x := .string S1) (by rw [HLIT.out]; rfl) (by rw [HG.out]; exact j4.out) hM.out (by rw [HG.out]; exact fun _ _ h => h) (by rw [HG.out]; exact ⟨fun h => absurd h (by decide), fun h => absurd h (by decide), fun h => absurd h (by decide), fun _ _ _ => E2.out.symm⟩))
    · intro bf ac wv hfb haf hJ K' hK
      obtain ⟨vs, rfl, hM, j4⟩ := hJ
      replace hK := Lib.hid hK
      replace hM := Lib.hid hM
      rw [HG.out] at j4
      replace j4 := Lib.hid j4
      clear haf hfb
      rw [HLIT.out]
      go_simp
      have b4 := al wv (.cells #[.int .u8 0, .int .u8 0, .int .u8 0, .int .u8 1, .int .u8 0, .int .u8 0, .int .u8 0, .int .u8 2, .int .u8 0, .int .u8 0, .int .u8 0, .int .u8 3, .int .u8 0, .int .u8 0, .int .u8 0, .int .u8 4, .int .u8 0, .int .u8 0, .int .u8 0, .int .u8 0, .int .u8 0, .int .u8 0, .int .u8 10] 5)
      exact hK.out _ _ (RS.next (wv := wv) (vs := vs) 3 (x := .slice (some ⟨wv.heap.size, 0, none⟩) 23 23) (by rw [HLIT.out]; rfl) (by rw [HG.out]; exact j4.out) (keep2 b4 hM.out) (by rw [HG.out]; exact fun k v h => ⟨fun q => (h.1 q).step b4, fun q => (h.2.1 q).step b4, fun q => (h.2.2.1 q).step b4, h.2.2.2⟩) (by rw [HG.out]; exact ⟨fun h => absurd h (by decide), fun _ => (by rw [← HLL.out]; exact bys_lit wv [0, 0, 0, 1, 0, 0, 0, 2, 0, 0, 0, 3, 0, 0, 0, 4, 0, 0, 0, 0, 0, 0, 10] #[.int .u8 0, .int .u8 0, .int .u8 0, .int .u8 1, .int .u8 0, .int .u8 0, .int .u8 0, .int .u8 2, .int .u8 0, .int .u8 0, .int .u8 0, .int .u8 3, .int .u8 0, .int .u8 0, .int .u8 0, .int .u8 4, .int .u8 0, .int .u8 0, .int .u8 0, .int .u8 0, .int .u8 0, .int .u8 0, .int .u8 10] 5 rfl (by simp) 23 rfl _ rfl), fun h => absurd h (by decide), fun h1 => fun h3 => absurd rfl h3⟩))
    · intro bf ac wv hfb haf hJ K' hK
      obtain ⟨vs, rfl, hM, j4⟩ := hJ
      replace hK := Lib.hid hK
      replace hM := Lib.hid hM
      rw [HG.out] at j4
      simp [Region.binds] at haf
      have e3 := (j4 3 (by simp [haf])).2.1 rfl
      replace j4 := Lib.hid j4
      clear haf hfb
      have cv := conv_bys e3
      rw [HS1.out] at cv
      rw [HLIT.out]
      go_simp
      exact hK.out _ _ (RS.next (wv := wv) (vs := vs) 4 (x := .string S1) (by rw [HLIT.out]; rfl) (by rw [HG.out]; exact j4.out) hM.out (by rw [HG.out]; exact fun _ _ h => h) (by rw [HG.out]; exact ⟨fun h => absurd h (by decide), fun h => absurd h (by decide), fun h => absurd h (by decide), fun _ _ _ => E4.out.symm⟩))
    · intro bf ac wv hfb haf hJ K' hK
      obtain ⟨vs, rfl, hM, j4⟩ := hJ
      replace hK := Lib.hid hK
      replace hM := Lib.hid hM
      rw [HG.out] at j4
      simp [Region.binds] at haf
      have e2 := ((j4 2 (by simp [haf])).2.2.2 (by decide) (by decide) (by decide)).trans E2.out
      have e4 := ((j4 4 (by simp [haf])).2.2.2 (by decide) (by decide) (by decide)).trans E4.out
      replace j4 := Lib.hid j4
      clear haf hfb
      rw [HLIT.out]
      go_simp
      exact hK.out _ _ (RS.next (wv := wv) (vs := vs) 5 (x := .bool true) (by rw [HLIT.out]; simp only [upv, e2, e4, Nat.reduceBEq, cond_true, cond_false]) (by rw [HG.out]; exact j4.out) hM.out (by rw [HG.out]; exact fun _ _ h => h) (by rw [HG.out]; exact ⟨fun h => absurd h (by decide), fun h => absurd h (by decide), fun h => absurd h (by decide), fun _ _ _ => E5.out.symm⟩))
    · intro bf ac wv hfb haf hJ K' hK
      obtain ⟨vs, rfl, hM, j4⟩ := hJ
      replace hK := Lib.hid hK
      replace hM := Lib.hid hM
      rw [HG.out] at j4
      simp [Region.binds] at haf
      have e5 := ((j4 5 (by simp [haf])).2.2.2 (by decide) (by decide) (by decide)).trans E5.out
      replace j4 := Lib.hid j4
      clear haf hfb
      rw [HLIT.out]
      go_simp
      exact hK.out _ _ (RS.next (wv := wv) (vs := vs) 6 (x := .bool true) (by rw [HLIT.out]; simp only [upv, e5, Nat.reduceBEq, cond_true, cond_false]) (by rw [HG.out]; exact j4.out) hM.out (by rw [HG.out]; exact fun _ _ h => h) (by rw [HG.out]; exact ⟨fun h => absurd h (by decide), fun h => absurd h (by decide), fun h => absurd h (by decide), fun _ _ _ => E6.out.symm⟩))
    · intro bf ac wv hfb haf hJ K' hK
      obtain ⟨vs, rfl, hM, j4⟩ := hJ
      replace hK := Lib.hid hK
      replace hM := Lib.hid hM
      rw [HG.out] at j4
      simp [Region.binds] at haf
      have e6 := ((j4 6 (by simp [haf])).2.2.2 (by decide) (by decide) (by decide)).trans E6.out
      replace j4 := Lib.hid j4
      clear haf hfb
      rw [HLIT.out]
      go_simp
      exact hK.out _ _ (RS.next (wv := wv) (vs := vs) 7 (x := .int .i64 0) (by rw [HLIT.out]; simp only [upv, e6, Nat.reduceBEq, cond_true, cond_false]) (by rw [HG.out]; exact j4.out) hM.out (by rw [HG.out]; exact fun _ _ h => h) (by rw [HG.out]; exact ⟨fun h => absurd h (by decide), fun h => absurd h (by decide), fun h => absurd h (by decide), fun _ _ _ => E7.out.symm⟩))
    · intro bf ac wv hfb haf hJ K' hK
      obtain ⟨vs, rfl, hM, j4⟩ := hJ
      replace hK := Lib.hid hK
      replace hM := Lib.hid hM
      rw [HG.out] at j4
      simp [Region.binds] at haf
      have e6 := ((j4 6 (by simp [haf])).2.2.2 (by decide) (by decide) (by decide)).trans E6.out
      have e7 := ((j4 7 (by simp [haf])).2.2.2 (by decide) (by decide) (by decide)).trans E7.out
      replace j4 := Lib.hid j4
      clear haf hfb
      rw [HLIT.out]
      go_simp
      exact hK.out _ _ (RS.next (wv := wv) (vs := vs) 8 (x := .bool true) (by rw [HLIT.out]; simp only [upv, e6, e7, Nat.reduceBEq, cond_true, cond_false]) (by rw [HG.out]; exact j4.out) hM.out (by rw [HG.out]; exact fun _ _ h => h) (by rw [HG.out]; exact ⟨fun h => absurd h (by decide), fun h => absurd h (by decide), fun h => absurd h (by decide), fun _ _ _ => E8.out.symm⟩))
    · intro bf ac wv hfb haf hJ K' hK
      obtain ⟨vs, rfl, hM, j4⟩ := hJ
      replace hK := Lib.hid hK
      replace hM := Lib.hid hM
      rw [HG.out] at j4
      simp [Region.binds] at haf
      have e6 := ((j4 6 (by simp [haf])).2.2.2 (by decide) (by decide) (by decide)).trans E6.out
      have e8 := ((j4 8 (by simp [haf])).2.2.2 (by decide) (by decide) (by decide)).trans E8.out
      replace j4 := Lib.hid j4
      clear haf hfb
      rw [HLIT.out]
      go_simp
      exact hK.out _ _ (RS.next (wv := wv) (vs := vs) 9 (x := .bool true) (by rw [HLIT.out]; simp only [upv, e6, e8, Nat.reduceBEq, cond_true, cond_false]) (by rw [HG.out]; exact j4.out) hM.out (by rw [HG.out]; exact fun _ _ h => h) (by rw [HG.out]; exact ⟨fun h => absurd h (by decide), fun h => absurd h (by decide), fun h => absurd h (by decide), fun _ _ _ => E9.out.symm⟩))
    · intro bf ac wv hfb haf hJ K' hK
      obtain ⟨vs, rfl, hM, j4⟩ := hJ
      replace hK := Lib.hid hK
      replace hM := Lib.hid hM
      rw [HG.out] at j4
      simp [Region.binds] at haf
      have e9 := ((j4 9 (by simp [haf])).2.2.2 (by decide) (by decide) (by decide)).trans E9.out
      replace j4 := Lib.hid j4
      clear haf hfb
      rw [HLIT.out]
      go_simp
      exact hK.out _ _ (RS.next (wv := wv) (vs := vs) 10 (x := .bool true) (by rw [HLIT.out]; simp only [upv, e9, Nat.reduceBEq, cond_true, cond_false]) (by rw [HG.out]; exact j4.out) hM.out (by rw [HG.out]; exact fun _ _ h => h) (by rw [HG.out]; exact ⟨fun h => absurd h (by decide), fun h => absurd h (by decide), fun h => absurd h (by decide), fun _ _ _ => E10.out.symm⟩))
    · intro bf ac wv hfb haf hJ K' hK
      obtain ⟨vs, rfl, hM, j4⟩ := hJ
      replace hK := Lib.hid hK
      replace hM := Lib.hid hM
      rw [HG.out] at j4
      simp [Region.binds] at haf
      have e10 := ((j4 10 (by simp [haf])).2.2.2 (by decide) (by decide) (by decide)).trans E10.out
      replace j4 := Lib.hid j4
      clear haf hfb
      have K1 := FS_39.out.step hM.out
      have x0 := K1.c 0 rfl
      have x1 := K1.c 1 rfl
      have x2 := K1.c 2 rfl
      have x3 := K1.c 3 rfl
      have x4 := K1.c 4 rfl
      have x5 := K1.c 5 rfl
      have xz := K1.2.2
      clear K1
      rw [HLIT.out]
      go_simp
      exact hK.out _ _ (RS.next (wv := wv) (vs := vs) 11 (x := .agg #[.int .i64 1, .int .i64 2, .int .i64 3, .int .i64 4, .slice ua 2 uc, .int .i64 211727416]) (by rw [HLIT.out]; simp only [upv, e10, Nat.reduceBEq, cond_true, cond_false]) (by rw [HG.out]; exact j4.out) hM.out (by rw [HG.out]; exact fun _ _ h => h) (by rw [HG.out]; exact ⟨fun h => absurd h (by decide), fun h => absurd h (by decide), fun h => absurd h (by decide), fun _ _ _ => E11.out.symm⟩))
    · intro bf ac wv hfb haf hJ K' hK
      obtain ⟨vs, rfl, hM, j4⟩ := hJ
      replace hK := Lib.hid hK
      replace hM := Lib.hid hM
      rw [HG.out] at j4
      simp [Region.binds] at haf
      have e10 := ((j4 10 (by simp [haf])).2.2.2 (by decide) (by decide) (by decide)).trans E10.out
      have e11 := ((j4 11 (by simp [haf])).2.2.2 (by decide) (by decide) (by decide)).trans E11.out
      replace j4 := Lib.hid j4
      clear haf hfb
      rw [HLIT.out]
      go_simp
      go_at_call 20
      refine (open_yes 9 1 2 3 4 _ [-5, 1000000000] 211727416 _ (FU_38.out.step hM.out) xV.2.2.2.2.1 xV.1 xT.symm).mono ?_
      rintro e w4 ⟨rfl, b4⟩
      exact hK.out _ _ (RS.next (wv := wv) (vs := vs) 12 (x := .int .i64 0) (by rw [HLIT.out]; simp only [upv, e10, e11, Nat.reduceBEq, cond_true, cond_false]) (by rw [HG.out]; exact j4.out) (keep2 b4 hM.out) (by rw [HG.out]; exact fun k v h => ⟨fun q => (h.1 q).step b4, fun q => (h.2.1 q).step b4, fun q => (h.2.2.1 q).step b4, h.2.2.2⟩) (by rw [HG.out]; exact ⟨fun h => absurd h (by decide), fun h => absurd h (by decide), fun h => absurd h (by decide), fun _ _ _ => E12.out.symm⟩))
    · intro bf ac wv hfb haf hJ K' hK
      obtain ⟨vs, rfl, hM, j4⟩ := hJ
      replace hK := Lib.hid hK
      replace hM := Lib.hid hM
      rw [HG.out] at j4
      simp [Region.binds] at haf
      have e10 := ((j4 10 (by simp [haf])).2.2.2 (by decide) (by decide) (by decide)).trans E10.out
      have e12 := ((j4 12 (by simp [haf])).2.2.2 (by decide) (by decide) (by decide)).trans E12.out
      replace j4 := Lib.hid j4
      clear haf hfb
      rw [HLIT.out]
      go_simp
      exact hK.out _ _ (RS.next (wv := wv) (vs := vs) 13 (x := .bool true) (by rw [HLIT.out]; simp only [upv, e10, e12, Nat.reduceBEq, cond_true, cond_false]) (by rw [HG.out]; exact j4.out) hM.out (by rw [HG.out]; exact fun _ _ h => h) (by rw [HG.out]; exact ⟨fun h => absurd h (by decide), fun h => absurd h (by decide), fun h => absurd h (by decide), fun _ _ _ => E13.out.symm⟩))
    · intro bf ac wv hfb haf hJ K' hK
      obtain ⟨vs, rfl, hM, j4⟩ := hJ
      replace hK := Lib.hid hK
      replace hM := Lib.hid hM
      rw [HG.out] at j4
      simp [Region.binds] at haf
      have e10 := ((j4 10 (by simp [haf])).2.2.2 (by decide) (by decide) (by decide)).trans E10.out
      have e13 := ((j4 13 (by simp [haf])).2.2.2 (by decide) (by decide) (by decide)).trans E13.out
      replace j4 := Lib.hid j4
      clear haf hfb
      rw [HLIT.out]
      go_simp
      exact hK.out _ _ (RS.next (wv := wv) (vs := vs) 14 (x := .bool true) (by rw [HLIT.out]; simp only [upv, e10, e13, Nat.reduceBEq, cond_true, cond_false]) (by rw [HG.out]; exact j4.out) hM.out (by rw [HG.out]; exact fun _ _ h => h) (by rw [HG.out]; exact ⟨fun h => absurd h (by decide), fun h => absurd h (by decide), fun h => absurd h (by decide), fun _ _ _ => E14.out.symm⟩))
    · intro bf ac wv hfb haf hJ K' hK
      obtain ⟨vs, rfl, hM, j4⟩ := hJ
      replace hK := Lib.hid hK
      replace hM := Lib.hid hM
      rw [HG.out] at j4
      simp [Region.binds] at haf
      have e14 := ((j4 14 (by simp [haf])).2.2.2 (by decide) (by decide) (by decide)).trans E14.out
      replace j4 := Lib.hid j4
      clear haf hfb
      rw [HLIT.out]
      go_simp
      exact hK.out _ _ (RS.next (wv := wv) (vs := vs) 15 (x := .bool true) (by rw [HLIT.out]; simp only [upv, e14, Nat.reduceBEq, cond_true, cond_false]) (by rw [HG.out]; exact j4.out) hM.out (by rw [HG.out]; exact fun _ _ h => h) (by rw [HG.out]; exact ⟨fun h => absurd h (by decide), fun h => absurd h (by decide), fun h => absurd h (by decide), fun _ _ _ => E15.out.symm⟩))
    · intro bf ac wv hfb haf hJ K' hK
      obtain ⟨vs, rfl, hM, j4⟩ := hJ
      replace hK := Lib.hid hK
      replace hM := Lib.hid hM
      rw [HG.out] at j4
      simp [Region.binds] at haf
      have e15 := ((j4 15 (by simp [haf])).2.2.2 (by decide) (by decide) (by decide)).trans E15.out
      replace j4 := Lib.hid j4
      clear haf hfb
      have K1 := FS_39.out.step hM.out
      have x0 := K1.c 0 rfl
      have x1 := K1.c 1 rfl
      have x2 := K1.c 2 rfl
      have x3 := K1.c 3 rfl
      have x4 := K1.c 4 rfl
      have x5 := K1.c 5 rfl
      have xz := K1.2.2
      clear K1
      rw [HLIT.out]
      go_simp
      exact hK.out _ _ (RS.next (wv := wv) (vs := vs) 16 (x := .agg #[.int .i64 1, .int .i64 2, .int .i64 3, .int .i64 4, .slice ua 2 uc, .int .i64 211727416]) (by rw [HLIT.out]; simp only [upv, e15, Nat.reduceBEq, cond_true, cond_false]) (by rw [HG.out]; exact j4.out) hM.out (by rw [HG.out]; exact fun _ _ h => h) (by rw [HG.out]; exact ⟨fun h => absurd h (by decide), fun h => absurd h (by decide), fun h => absurd h (by decide), fun _ _ _ => E16.out.symm⟩))
    · intro bf ac wv hfb haf hJ K' hK
      obtain ⟨vs, rfl, hM, j4⟩ := hJ
      replace hK := Lib.hid hK
      replace hM := Lib.hid hM
      rw [HG.out] at j4
      simp [Region.binds] at haf
      have e15 := ((j4 15 (by simp [haf])).2.2.2 (by decide) (by decide) (by decide)).trans E15.out
      have e16 := ((j4 16 (by simp [haf])).2.2.2 (by decide) (by decide) (by decide)).trans E16.out
      replace j4 := Lib.hid j4
      clear haf hfb
      rw [HLIT.out]
      go_simp
      go_at_call 20
      refine (open_tag 8 1 2 3 4 _ [-5, 1000000000] 211727416 _ (FU_38.out.step hM.out) xV.2.2.2.2.2 xV.1 xO.1).mono ?_
      rintro e w4 ⟨rfl, b4⟩
      exact hK.out _ _ (RS.next (wv := wv) (vs := vs) 17 (x := .int .i64 15) (by rw [HLIT.out]; simp only [upv, e15, e16, Nat.reduceBEq, cond_true, cond_false]) (by rw [HG.out]; exact j4.out) (keep2 b4 hM.out) (by rw [HG.out]; exact fun k v h => ⟨fun q => (h.1 q).step b4, fun q => (h.2.1 q).step b4, fun q => (h.2.2.1 q).step b4, h.2.2.2⟩) (by rw [HG.out]; exact ⟨fun h => absurd h (by decide), fun h => absurd h (by decide), fun h => absurd h (by decide), fun _ _ _ => E17.out.symm⟩))
    · intro bf ac wv hfb haf hJ K' hK
      obtain ⟨vs, rfl, hM, j4⟩ := hJ
      replace hK := Lib.hid hK
      replace hM := Lib.hid hM
      rw [HG.out] at j4
      simp [Region.binds] at haf
      have e15 := ((j4 15 (by simp [haf])).2.2.2 (by decide) (by decide) (by decide)).trans E15.out
      have e17 := ((j4 17 (by simp [haf])).2.2.2 (by decide) (by decide) (by decide)).trans E17.out
      replace j4 := Lib.hid j4
      clear haf hfb
      rw [HLIT.out]
      go_simp
      exact hK.out _ _ (RS.next (wv := wv) (vs := vs) 18 (x := .bool true) (by rw [HLIT.out]; simp only [upv, e15, e17, Nat.reduceBEq, cond_true, cond_false]) (by rw [HG.out]; exact j4.out) hM.out (by rw [HG.out]; exact fun _ _ h => h) (by rw [HG.out]; exact ⟨fun h => absurd h (by decide), fun h => absurd h (by decide), fun h => absurd h (by decide), fun _ _ _ => E18.out.symm⟩))
    · intro bf ac wv hfb haf hJ K' hK
      obtain ⟨vs, rfl, hM, j4⟩ := hJ
      replace hK := Lib.hid hK
      replace hM := Lib.hid hM
      rw [HG.out] at j4
      simp [Region.binds] at haf
      have e15 := ((j4 15 (by simp [haf])).2.2.2 (by decide) (by decide) (by decide)).trans E15.out
      have e18 := ((j4 18 (by simp [haf])).2.2.2 (by decide) (by decide) (by decide)).trans E18.out
      replace j4 := Lib.hid j4
      clear haf hfb
      rw [HLIT.out]
      go_simp
      exact hK.out _ _ (RS.next (wv := wv) (vs := vs) 19 (x := .bool true) (by rw [HLIT.out]; simp only [upv, e15, e18, Nat.reduceBEq, cond_true, cond_false]) (by rw [HG.out]; exact j4.out) hM.out (by rw [HG.out]; exact fun _ _ h => h) (by rw [HG.out]; exact ⟨fun h => absurd h (by decide), fun h => absurd h (by decide), fun h => absurd h (by decide), fun _ _ _ => E19.out.symm⟩))
    · intro bf ac wv hfb haf hJ K' hK
      obtain ⟨vs, rfl, hM, j4⟩ := hJ
      replace hK := Lib.hid hK
      replace hM := Lib.hid hM
      rw [HG.out] at j4
      simp [Region.binds] at haf
      have e19 := ((j4 19 (by simp [haf])).2.2.2 (by decide) (by decide) (by decide)).trans E19.out
      replace j4 := Lib.hid j4
      clear haf hfb
      rw [HLIT.out]
      go_simp
      exact hK.out _ _ (RS.next (wv := wv) (vs := vs) 20 (x := .bool true) (by rw [HLIT.out]; simp only [upv, e19, Nat.reduceBEq, cond_true, cond_false]) (by rw [HG.out]; exact j4.out) hM.out (by rw [HG.out]; exact fun _ _ h => h) (by rw [HG.out]; exact ⟨fun h => absurd h (by decide), fun h => absurd h (by decide), fun h => absurd h (by decide), fun _ _ _ => E20.out.symm⟩))
    · intro bf ac wv hfb haf hJ K' hK
      obtain ⟨vs, rfl, hM, j4⟩ := hJ
      replace hK := Lib.hid hK
      replace hM := Lib.hid hM
      rw [HG.out] at j4
      simp [Region.binds] at haf
      have e20 := ((j4 20 (by simp [haf])).2.2.2 (by decide) (by decide) (by decide)).trans E20.out
      replace j4 := Lib.hid j4
      clear haf hfb
      have K1 := FD_40.out.step hM.out
      have x0 := K1.c 0 rfl
      have x1 := K1.c 1 rfl
      have x2 := K1.c 2 rfl
      have x3 := K1.c 3 rfl
      have x4 := K1.c 4 rfl
      have x5 := K1.c 5 rfl
      have xz := K1.2.2
      clear K1
      rw [HLIT.out]
      go_simp
      exact hK.out _ _ (RS.next (wv := wv) (vs := vs) 21 (x := .agg #[.int .i64 1, .int .i64 2, .int .i64 4, .int .i64 4, .slice ua 2 uc, .int .i64 211727416]) (by rw [HLIT.out]; simp only [upv, e20, Nat.reduceBEq, cond_true, cond_false]) (by rw [HG.out]; exact j4.out) hM.out (by rw [HG.out]; exact fun _ _ h => h) (by rw [HG.out]; exact ⟨fun h => absurd h (by decide), fun h => absurd h (by decide), fun h => absurd h (by decide), fun _ _ _ => E21.out.symm⟩))
    · intro bf ac wv hfb haf hJ K' hK
      obtain ⟨vs, rfl, hM, j4⟩ := hJ
      replace hK := Lib.hid hK
      replace hM := Lib.hid hM
      rw [HG.out] at j4
      simp [Region.binds] at haf
      have e20 := ((j4 20 (by simp [haf])).2.2.2 (by decide) (by decide) (by decide)).trans E20.out
      have e21 := ((j4 21 (by simp [haf])).2.2.2 (by decide) (by decide) (by decide)).trans E21.out
      replace j4 := Lib.hid j4
      clear haf hfb
      rw [HLIT.out]
      go_simp
      go_at_call 20
      refine (open_tag 9 1 2 4 4 _ [-5, 1000000000] 211727416 _ (FU_38.out.step hM.out) xV.2.2.2.2.1 xV.2.1 xO.2.1).mono ?_
      rintro e w4 ⟨rfl, b4⟩
      exact hK.out _ _ (RS.next (wv := wv) (vs := vs) 22 (x := .int .i64 15) (by rw [HLIT.out]; simp only [upv, e20, e21, Nat.reduceBEq, cond_true, cond_false]) (by rw [HG.out]; exact j4.out) (keep2 b4 hM.out) (by rw [HG.out]; exact fun k v h => ⟨fun q => (h.1 q).step b4, fun q => (h.2.1 q).step b4, fun q => (h.2.2.1 q).step b4, h.2.2.2⟩) (by rw [HG.out]; exact ⟨fun h => absurd h (by decide), fun h => absurd h (by decide), fun h => absurd h (by decide), fun _ _ _ => E22.out.symm⟩))
    · intro bf ac wv hfb haf hJ K' hK
      obtain ⟨vs, rfl, hM, j4⟩ := hJ
      replace hK := Lib.hid hK
      replace hM := Lib.hid hM
      rw [HG.out] at j4
      simp [Region.binds] at haf
      have e20 := ((j4 20 (by simp [haf])).2.2.2 (by decide) (by decide) (by decide)).trans E20.out
      have e22 := ((j4 22 (by simp [haf])).2.2.2 (by decide) (by decide) (by decide)).trans E22.out
      replace j4 := Lib.hid j4
      clear haf hfb
      rw [HLIT.out]
      go_simp
      exact hK.out _ _ (RS.next (wv := wv) (vs := vs) 23 (x := .bool true) (by rw [HLIT.out]; simp only [upv, e20, e22, Nat.reduceBEq, cond_true, cond_false]) (by rw [HG.out]; exact j4.out) hM.out (by rw [HG.out]; exact fun _ _ h => h) (by rw [HG.out]; exact ⟨fun h => absurd h (by decide), fun h => absurd h (by decide), fun h => absurd h (by decide), fun _ _ _ => E23.out.symm⟩))
    · intro bf ac wv hfb haf hJ K' hK
      obtain ⟨vs, rfl, hM, j4⟩ := hJ
      replace hK := Lib.hid hK
      replace hM := Lib.hid hM
      rw [HG.out] at j4
      simp [Region.binds] at haf
      have e20 := ((j4 20 (by simp [haf])).2.2.2 (by decide) (by decide) (by decide)).trans E20.out
      have e23 := ((j4 23 (by simp [haf])).2.2.2 (by decide) (by decide) (by decide)).trans E23.out
      replace j4 := Lib.hid j4
      clear haf hfb
      rw [HLIT.out]
      go_simp
      exact hK.out _ _ (RS.next (wv := wv) (vs := vs) 24 (x := .bool true) (by rw [HLIT.out]; simp only [upv, e20, e23, Nat.reduceBEq, cond_true, cond_false]) (by rw [HG.out]; exact j4.out) hM.out (by rw [HG.out]; exact fun _ _ h => h) (by rw [HG.out]; exact ⟨fun h => absurd h (by decide), fun h => absurd h (by decide), fun h => absurd h (by decide), fun _ _ _ => E24.out.symm⟩))
    · intro bf ac wv hfb haf hJ K' hK
      obtain ⟨vs, rfl, hM, j4⟩ := hJ
      replace hK := Lib.hid hK
      replace hM := Lib.hid hM
      rw [HG.out] at j4
      simp [Region.binds] at haf
      have e24 := ((j4 24 (by simp [haf])).2.2.2 (by decide) (by decide) (by decide)).trans E24.out
      replace j4 := Lib.hid j4
      clear haf hfb
      rw [HLIT.out]
      go_simp
      exact hK.out _ _ (RS.next (wv := wv) (vs := vs) 25 (x := .bool true) (by rw [HLIT.out]; simp only [upv, e24, Nat.reduceBEq, cond_true, cond_false]) (by rw [HG.out]; exact j4.out) hM.out (by rw [HG.out]; exact fun _ _ h => h) (by rw [HG.out]; exact ⟨fun h => absurd h (by decide), fun h => absurd h (by decide), fun h => absurd h (by decide), fun _ _ _ => E25.out.symm⟩))
    · intro bf ac wv hfb haf hJ K' hK
      obtain ⟨vs, rfl, hM, j4⟩ := hJ
      replace hK := Lib.hid hK
      replace hM := Lib.hid hM
      rw [HG.out] at j4
      simp [Region.binds] at haf
      have e25 := ((j4 25 (by simp [haf])).2.2.2 (by decide) (by decide) (by decide)).trans E25.out
      replace j4 := Lib.hid j4
      clear haf hfb
      rw [HLIT.out]
      go_simp
      exact hK.out _ _ (RS.next (wv := wv) (vs := vs) 26 (x := .int .i64 0) (by rw [HLIT.out]; simp only [upv, e25, Nat.reduceBEq, cond_true, cond_false]) (by rw [HG.out]; exact j4.out) hM.out (by rw [HG.out]; exact fun _ _ h => h) (by rw [HG.out]; exact ⟨fun h => absurd h (by decide), fun h => absurd h (by decide), fun h => absurd h (by decide), fun _ _ _ => E26.out.symm⟩))
    · intro bf ac wv hfb haf hJ K' hK
      obtain ⟨vs, rfl, hM, j4⟩ := hJ
      replace hK := Lib.hid hK
      replace hM := Lib.hid hM
      rw [HG.out] at j4
      simp [Region.binds] at haf
      have e25 := ((j4 25 (by simp [haf])).2.2.2 (by decide) (by decide) (by decide)).trans E25.out
      have e26 := ((j4 26 (by simp [haf])).2.2.2 (by decide) (by decide) (by decide)).trans E26.out
      replace j4 := Lib.hid j4
      clear haf hfb
      rw [HLIT.out]
      go_simp
      exact hK.out _ _ (RS.next (wv := wv) (vs := vs) 27 (x := .bool true) (by rw [HLIT.out]; simp only [upv, e25, e26, Nat.reduceBEq, cond_true, cond_false]) (by rw [HG.out]; exact j4.out) hM.out (by rw [HG.out]; exact fun _ _ h => h) (by rw [HG.out]; exact ⟨fun h => absurd h (by decide), fun h => absurd h (by decide), fun h => absurd h (by decide), fun _ _ _ => E27.out.symm⟩))
    · intro bf ac wv hfb haf hJ K' hK
      obtain ⟨vs, rfl, hM, j4⟩ := hJ
      replace hK := Lib.hid hK
      replace hM := Lib.hid hM
      rw [HG.out] at j4
      simp [Region.binds] at haf
      have e25 := ((j4 25 (by simp [haf])).2.2.2 (by decide) (by decide) (by decide)).trans E25.out
      have e27 := ((j4 27 (by simp [haf])).2.2.2 (by decide) (by decide) (by decide)).trans E27.out
      replace j4 := Lib.hid j4
      clear haf hfb
      rw [HLIT.out]
      go_simp
      exact hK.out _ _ (RS.next (wv := wv) (vs := vs) 28 (x := .bool true) (by rw [HLIT.out]; simp only [upv, e25, e27, Nat.reduceBEq, cond_true, cond_false]) (by rw [HG.out]; exact j4.out) hM.out (by rw [HG.out]; exact fun _ _ h => h) (by rw [HG.out]; exact ⟨fun h => absurd h (by decide), fun h => absurd h (by decide), fun h => absurd h (by decide), fun _ _ _ => E28.out.symm⟩))
    · intro bf ac wv hfb haf hJ K' hK
      obtain ⟨vs, rfl, hM, j4⟩ := hJ
      replace hK := Lib.hid hK
      replace hM := Lib.hid hM
      rw [HG.out] at j4
      simp [Region.binds] at haf
      have e28 := ((j4 28 (by simp [haf])).2.2.2 (by decide) (by decide) (by decide)).trans E28.out
      replace j4 := Lib.hid j4
      clear haf hfb
      rw [HLIT.out]
      go_simp
      exact hK.out _ _ (RS.next (wv := wv) (vs := vs) 29 (x := .bool true) (by rw [HLIT.out]; simp only [upv, e28, Nat.reduceBEq, cond_true, cond_false]) (by rw [HG.out]; exact j4.out) hM.out (by rw [HG.out]; exact fun _ _ h => h) (by rw [HG.out]; exact ⟨fun h => absurd h (by decide), fun h => absurd h (by decide), fun h => absurd h (by decide), fun _ _ _ => E29.out.symm⟩))
    · intro bf ac wv hfb haf hJ K' hK
      obtain ⟨vs, rfl, hM, j4⟩ := hJ
      replace hK := Lib.hid hK
      replace hM := Lib.hid hM
      rw [HG.out] at j4
      simp [Region.binds] at haf
      have e29 := ((j4 29 (by simp [haf])).2.2.2 (by decide) (by decide) (by decide)).trans E29.out
      replace j4 := Lib.hid j4
      clear haf hfb
      have K1 := FX_42.out.step hM.out
      have x0 := K1.c 0 rfl
      have x1 := K1.c 1 rfl
      have x2 := K1.c 2 rfl
      have x3 := K1.c 3 rfl
      have x4 := K1.c 4 rfl
      have x5 := K1.c 5 rfl
      have xz := K1.2.2
      clear K1
      rw [HLIT.out]
      go_simp
      exact hK.out _ _ (RS.next (wv := wv) (vs := vs) 30 (x := .agg #[.int .i64 1, .int .i64 2, .int .i64 3, .int .i64 4, .slice va 2 vc, .int .i64 211727416]) (by rw [HLIT.out]; simp only [upv, e29, Nat.reduceBEq, cond_true, cond_false]) (by rw [HG.out]; exact j4.out) hM.out (by rw [HG.out]; exact fun _ _ h => h) (by rw [HG.out]; exact ⟨fun h => absurd h (by decide), fun h => absurd h (by decide), fun h => absurd h (by decide), fun _ _ _ => E30.out.symm⟩))
    · intro bf ac wv hfb haf hJ K' hK
      obtain ⟨vs, rfl, hM, j4⟩ := hJ
      replace hK := Lib.hid hK
      replace hM := Lib.hid hM
      rw [HG.out] at j4
      simp [Region.binds] at haf
      have e29 := ((j4 29 (by simp [haf])).2.2.2 (by decide) (by decide) (by decide)).trans E29.out
      replace j4 := Lib.hid j4
      clear haf hfb
      have K1 := FS_39.out.step hM.out
      have x0 := K1.c 0 rfl
      have x1 := K1.c 1 rfl
      have x2 := K1.c 2 rfl
      have x3 := K1.c 3 rfl
      have x4 := K1.c 4 rfl
      have x5 := K1.c 5 rfl
      have xz := K1.2.2
      clear K1
      rw [HLIT.out]
      go_simp
      exact hK.out _ _ (RS.next (wv := wv) (vs := vs) 31 (x := .agg #[.int .i64 1, .int .i64 2, .int .i64 3, .int .i64 4, .slice ua 2 uc, .int .i64 211727416]) (by rw [HLIT.out]; simp only [upv, e29, Nat.reduceBEq, cond_true, cond_false]) (by rw [HG.out]; exact j4.out) hM.out (by rw [HG.out]; exact fun _ _ h => h) (by rw [HG.out]; exact ⟨fun h => absurd h (by decide), fun h => absurd h (by decide), fun h => absurd h (by decide), fun _ _ _ => E31.out.symm⟩))
    · intro bf ac wv hfb haf hJ K' hK
      obtain ⟨vs, rfl, hM, j4⟩ := hJ
      replace hK := Lib.hid hK
      replace hM := Lib.hid hM
      rw [HG.out] at j4
      simp [Region.binds] at haf
      have e29 := ((j4 29 (by simp [haf])).2.2.2 (by decide) (by decide) (by decide)).trans E29.out
      have e30 := ((j4 30 (by simp [haf])).2.2.2 (by decide) (by decide) (by decide)).trans E30.out
      have e31 := ((j4 31 (by simp [haf])).2.2.2 (by decide) (by decide) (by decide)).trans E31.out
      replace j4 := Lib.hid j4
      clear haf hfb
      rw [HLIT.out]
      go_simp
      go_at_call 19
      refine (same_any 1 2 3 4 _ [-5, 1000000000] 211727416 1 2 3 4 _ [-5, 1000000000] 211727416 _ (FU6_41.out.step hM.out) (FU_38.out.step hM.out)).mono ?_
      rintro e w4 ⟨rfl, b4⟩
      rw [xO.2.2.2.2]
      exact hK.out _ _ (RS.next (wv := wv) (vs := vs) 32 (x := .bool true) (by rw [HLIT.out]; simp only [upv, e29, e30, e31, Nat.reduceBEq, cond_true, cond_false]) (by rw [HG.out]; exact j4.out) (keep2 b4 hM.out) (by rw [HG.out]; exact fun k v h => ⟨fun q => (h.1 q).step b4, fun q => (h.2.1 q).step b4, fun q => (h.2.2.1 q).step b4, h.2.2.2⟩) (by rw [HG.out]; exact ⟨fun h => absurd h (by decide), fun h => absurd h (by decide), fun h => absurd h (by decide), fun _ _ _ => E32.out.symm⟩))
    · intro bf ac wv hfb haf hJ K' hK
      obtain ⟨vs, rfl, hM, j4⟩ := hJ
      replace hK := Lib.hid hK
      replace hM := Lib.hid hM
      rw [HG.out] at j4
      simp [Region.binds] at haf
      have e29 := ((j4 29 (by simp [haf])).2.2.2 (by decide) (by decide) (by decide)).trans E29.out
      have e32 := ((j4 32 (by simp [haf])).2.2.2 (by decide) (by decide) (by decide)).trans E32.out
      replace j4 := Lib.hid j4
      clear haf hfb
      rw [HLIT.out]
      go_simp
      exact hK.out _ _ (RS.next (wv := wv) (vs := vs) 33 (x := .bool true) (by rw [HLIT.out]; simp only [upv, e29, e32, Nat.reduceBEq, cond_true, cond_false]) (by rw [HG.out]; exact j4.out) hM.out (by rw [HG.out]; exact fun _ _ h => h) (by rw [HG.out]; exact ⟨fun h => absurd h (by decide), fun h => absurd h (by decide), fun h => absurd h (by decide), fun _ _ _ => E33.out.symm⟩))
    · intro bf ac wv hfb haf hJ K' hK
      obtain ⟨vs, rfl, hM, j4⟩ := hJ
      replace hK := Lib.hid hK
      replace hM := Lib.hid hM
      rw [HG.out] at j4
      simp [Region.binds] at haf
      have e33 := ((j4 33 (by simp [haf])).2.2.2 (by decide) (by decide) (by decide)).trans E33.out
      replace j4 := Lib.hid j4
      clear haf hfb
      rw [HLIT.out]
      go_simp
      exact hK.out _ _ (RS.next (wv := wv) (vs := vs) 34 (x := .bool true) (by rw [HLIT.out]; simp only [upv, e33, Nat.reduceBEq, cond_true, cond_false]) (by rw [HG.out]; exact j4.out) hM.out (by rw [HG.out]; exact fun _ _ h => h) (by rw [HG.out]; exact ⟨fun h => absurd h (by decide), fun h => absurd h (by decide), fun h => absurd h (by decide), fun _ _ _ => E34.out.symm⟩))
    · intro bf ac wv hfb haf hJ K' hK
      obtain ⟨vs, rfl, hM, j4⟩ := hJ
      replace hK := Lib.hid hK
      replace hM := Lib.hid hM
      rw [HG.out] at j4
      simp [Region.binds] at haf
      have e34 := ((j4 34 (by simp [haf])).2.2.2 (by decide) (by decide) (by decide)).trans E34.out
      replace j4 := Lib.hid j4
      clear haf hfb
      rw [HLIT.out]
      go_simp
      exact hK.out _ _ (RS.next (wv := wv) (vs := vs) 35 (x := .pointer (some ⟨u1.heap.size, 5, none⟩)) (by rw [HLIT.out]; simp only [upv, e34, Nat.reduceBEq, cond_true, cond_false]) (by rw [HG.out]; exact j4.out) hM.out (by rw [HG.out]; exact fun _ _ h => h) (by rw [HG.out]; exact ⟨fun h => absurd h (by decide), fun h => absurd h (by decide), fun h => absurd h (by decide), fun _ _ _ => E35.out.symm⟩))
    · intro bf ac wv hfb haf hJ K' hK
      obtain ⟨vs, rfl, hM, j4⟩ := hJ
      replace hK := Lib.hid hK
      replace hM := Lib.hid hM
      rw [HG.out] at j4
      simp [Region.binds] at haf
      have e34 := ((j4 34 (by simp [haf])).2.2.2 (by decide) (by decide) (by decide)).trans E34.out
      have e35 := ((j4 35 (by simp [haf])).2.2.2 (by decide) (by decide) (by decide)).trans E35.out
      replace j4 := Lib.hid j4
      clear haf hfb
      have K1 := FS_39.out.step hM.out
      have x5 := K1.c 5 rfl
      have xz := K1.2.2
      clear K1
      rw [HLIT.out]
      go_simp
      exact hK.out _ _ (RS.next (wv := wv) (vs := vs) 36 (x := .int .i64 211727416) (by rw [HLIT.out]; simp only [upv, e34, e35, Nat.reduceBEq, cond_true, cond_false]) (by rw [HG.out]; exact j4.out) hM.out (by rw [HG.out]; exact fun _ _ h => h) (by rw [HG.out]; exact ⟨fun h => absurd h (by decide), fun h => absurd h (by decide), fun h => absurd h (by decide), fun _ _ _ => E36.out.symm⟩))
    · intro bf ac wv hfb haf hJ K' hK
      obtain ⟨vs, rfl, hM, j4⟩ := hJ
      replace hK := Lib.hid hK
      replace hM := Lib.hid hM
      rw [HG.out] at j4
      simp [Region.binds] at haf
      have e34 := ((j4 34 (by simp [haf])).2.2.2 (by decide) (by decide) (by decide)).trans E34.out
      replace j4 := Lib.hid j4
      clear haf hfb
      rw [HLIT.out]
      go_simp
      have b4 := al wv (.cells #[.int .i64 1, .int .i64 2, .int .i64 3, .int .i64 4, .int .i64 2, .int .i64 (-5), .int .i64 1000000000] 3)
      exact hK.out _ _ (RS.next (wv := wv) (vs := vs) 37 (x := .slice (some ⟨wv.heap.size, 0, none⟩) 7 7) (by rw [HLIT.out]; simp only [upv, e34, Nat.reduceBEq, cond_true, cond_false]) (by rw [HG.out]; exact j4.out) (keep2 b4 hM.out) (by rw [HG.out]; exact fun k v h => ⟨fun q => (h.1 q).step b4, fun q => (h.2.1 q).step b4, fun q => (h.2.2.1 q).step b4, h.2.2.2⟩) (by rw [HG.out]; exact ⟨fun h => absurd h (by decide), fun h => absurd h (by decide), fun _ => ints_lit wv [1, 2, 3, 4, 2, -5, 1000000000] #[.int .i64 1, .int .i64 2, .int .i64 3, .int .i64 4, .int .i64 2, .int .i64 (-5), .int .i64 1000000000] 3 rfl (by simp) 7 rfl _ rfl, fun h1 => fun h3 => fun h37 => absurd rfl h37⟩))
    · intro bf ac wv hfb haf hJ K' hK
      obtain ⟨vs, rfl, hM, j4⟩ := hJ
      replace hK := Lib.hid hK
      replace hM := Lib.hid hM
      rw [HG.out] at j4
      simp [Region.binds] at haf
      have e34 := ((j4 34 (by simp [haf])).2.2.2 (by decide) (by decide) (by decide)).trans E34.out
      have e37 := (j4 37 (by simp [haf])).2.2.1 rfl
      replace j4 := Lib.hid j4
      clear haf hfb
      rw [HLIT.out]
      go_simp
      go_at_call 33
      refine (HTG.out _ _ e37).mono ?_
      rintro e w4 ⟨rfl, b4⟩
      exact hK.out _ _ (RS.next (wv := wv) (vs := vs) 38 (x := .int .i64 211727416) (by rw [HLIT.out]; simp only [upv, e34, Nat.reduceBEq, cond_true, cond_false]) (by rw [HG.out]; exact j4.out) (keep2 b4 hM.out) (by rw [HG.out]; exact fun k v h => ⟨fun q => (h.1 q).step b4, fun q => (h.2.1 q).step b4, fun q => (h.2.2.1 q).step b4, h.2.2.2⟩) (by rw [HG.out]; exact ⟨fun h => absurd h (by decide), fun h => absurd h (by decide), fun h => absurd h (by decide), fun _ _ _ => E38.out.symm⟩))
    · intro bf ac wv hfb haf hJ K' hK
      obtain ⟨vs, rfl, hM, j4⟩ := hJ
      replace hK := Lib.hid hK
      replace hM := Lib.hid hM
      rw [HG.out] at j4
      simp [Region.binds] at haf
      have e34 := ((j4 34 (by simp [haf])).2.2.2 (by decide) (by decide) (by decide)).trans E34.out
      have e36 := ((j4 36 (by simp [haf])).2.2.2 (by decide) (by decide) (by decide)).trans E36.out
      have e38 := ((j4 38 (by simp [haf])).2.2.2 (by decide) (by decide) (by decide)).trans E38.out
      replace j4 := Lib.hid j4
      clear haf hfb
      rw [HLIT.out]
      go_simp
      exact hK.out _ _ (RS.next (wv := wv) (vs := vs) 39 (x := .bool true) (by rw [HLIT.out]; simp only [upv, e34, e36, e38, Nat.reduceBEq, cond_true, cond_false]) (by rw [HG.out]; exact j4.out) hM.out (by rw [HG.out]; exact fun _ _ h => h) (by rw [HG.out]; exact ⟨fun h => absurd h (by decide), fun h => absurd h (by decide), fun h => absurd h (by decide), fun _ _ _ => E39.out.symm⟩))
    · intro bf ac wv hfb haf hJ K' hK
      obtain ⟨vs, rfl, hM, j4⟩ := hJ
      replace hK := Lib.hid hK
      replace hM := Lib.hid hM
      rw [HG.out] at j4
      simp [Region.binds] at haf
      have e34 := ((j4 34 (by simp [haf])).2.2.2 (by decide) (by decide) (by decide)).trans E34.out
      have e39 := ((j4 39 (by simp [haf])).2.2.2 (by decide) (by decide) (by decide)).trans E39.out
      replace j4 := Lib.hid j4
      clear haf hfb
      rw [HLIT.out]
      go_simp
      exact hK.out _ _ (RS.next (wv := wv) (vs := vs) 40 (x := .bool true) (by rw [HLIT.out]; simp only [upv, e34, e39, Nat.reduceBEq, cond_true, cond_false]) (by rw [HG.out]; exact j4.out) hM.out (by rw [HG.out]; exact fun _ _ h => h) (by rw [HG.out]; exact ⟨fun h => absurd h (by decide), fun h => absurd h (by decide), fun h => absurd h (by decide), fun _ _ _ => E40.out.symm⟩))
    · intro bf ac wv hfb haf hJ K' hK
      obtain ⟨vs, rfl, hM, j4⟩ := hJ
      replace hK := Lib.hid hK
      replace hM := Lib.hid hM
      rw [HG.out] at j4
      simp [Region.binds] at haf
      have e40 := ((j4 40 (by simp [haf])).2.2.2 (by decide) (by decide) (by decide)).trans E40.out
      replace j4 := Lib.hid j4
      clear haf hfb
      rw [HLIT.out]
      go_simp
      exact hK.out _ _ (RS.next (wv := wv) (vs := vs) 41 (x := .bool true) (by rw [HLIT.out]; simp only [upv, e40, Nat.reduceBEq, cond_true, cond_false]) (by rw [HG.out]; exact j4.out) hM.out (by rw [HG.out]; exact fun _ _ h => h) (by rw [HG.out]; exact ⟨fun h => absurd h (by decide), fun h => absurd h (by decide), fun h => absurd h (by decide), fun _ _ _ => E41.out.symm⟩))
  · intro bf ac wv hall hJ
    obtain ⟨vs, rfl, hM, j4⟩ := hJ
    rw [HG.out] at j4
    have e41 := ((j4 41 (hall 41 (by decide))).2.2.2 (by decide) (by decide) (by decide)).trans E41.out
    have HBV := Lib.hid (keep2 hM HB43.out)
    have HFV := Lib.hid (FF_37.out.step hM)
    clear hM hall j4
    rw [HLIT.out]
    dsimp only
    rw [e41]
    clear e41 HL1 HLL HS1 HTG
    skip
    go_wp2_with fail
    refine (fresh1_any _).mono ?_
    rintro e u51 ⟨fs, rfl, hf, b51⟩
    have FF_901 := Lib.hid (HFV.out.step b51)
    clear HFV
    have HB902 := Lib.hid (keep2 b51 HBV.out)
    clear HBV b51
    have hf2 : BosAt _ fs q0 := bos_of_row (xs := List.replicate 16 false) hf
    obtain ⟨fa, fc, rfl⟩ := row_slice hf
    have hfc := Lib.hid (row_cap hf)
    clear hf
    obtain ⟨fb, fo, rfl⟩ : ∃ b off, fa = some ⟨b, off, none⟩ := by
      obtain ⟨a, c, he, -, hx⟩ := hf2
      obtain ⟨b, off, ha, -⟩ := hx (by decide)
      obtain ⟨rfl, -, -⟩ : fa = a ∧ 16 = q0.length ∧ fc = c := by simpa using he
      exact ⟨b, off, ha⟩
    have FQ0_903 := Lib.hid (hf2)
    clear hf2
    go_wp2_with fail
    refine (acc_any (-1) fb fo fc q0 0 _ FQ0_903.out q_wf.1 hfc.out 0 0 q1 xacc.1 rfl xacc.2.1).mono ?_
    rintro e u52 ⟨b1, o1, c1, rfl, hc1, hq1, b52⟩
    have FF_904 := Lib.hid (FF_901.out.step b52)
    clear FF_901
    have FQ0_905 := Lib.hid (FQ0_903.out.step b52)
    clear FQ0_903
    have HB906 := Lib.hid (keep2 b52 HB902.out)
    clear HB902 b52
    replace hc1 := Lib.hid hc1
    have FQ1_907 := Lib.hid (hq1)
    clear hq1
    go_wp2_with fail
    have FF_908 := Lib.hid (FF_904.out.step (al u52 (.cells #[.int .i64 0, .slice (some ⟨b1, o1, none⟩) 16 c1] 28)))
    clear FF_904
    have FQ0_909 := Lib.hid (FQ0_905.out.step (al u52 (.cells #[.int .i64 0, .slice (some ⟨b1, o1, none⟩) 16 c1] 28)))
    clear FQ0_905
    have FQ1_910 := Lib.hid (FQ1_907.out.step (al u52 (.cells #[.int .i64 0, .slice (some ⟨b1, o1, none⟩) 16 c1] 28)))
    clear FQ1_907
    have FB1_911 := Lib.hid (Cs.new u52 (u52.heap.size) #[.int .i64 0, .slice (some ⟨b1, o1, none⟩) 16 c1] 28 (by simp))
    have HB912 : Hid (Below w.heap.size w (u52.alloc (.cells #[.int .i64 0, .slice (some ⟨b1, o1, none⟩) 16 c1] 28))) := HB906.out.alloc HB906.out.size _
    clear HB906
    have xB10 := FB1_911.out.c 0 rfl
    have xB11 := FB1_911.out.c 1 rfl
    have xzB1 := FB1_911.out.2.2
    clear FQ0_909
    refine (acc_any 0 b1 o1 c1 q1 20 _ FQ1_910.out q_wf.2.1 hc1.out 20 0 q2 xacc.2.2.1 rfl xacc.2.2.2.1).mono ?_
    rintro e u53 ⟨b2, o2, c2, rfl, hc2, hq2, b53⟩
    clear xB10 xB11 xzB1
    have FF_913 := Lib.hid (FF_908.out.step b53)
    clear FF_908
    have FQ1_914 := Lib.hid (FQ1_910.out.step b53)
    clear FQ1_910
    have FB1_915 := Lib.hid (FB1_911.out.step b53)
    clear FB1_911
    have HB916 := Lib.hid (keep2 b53 HB912.out)
    clear HB912 b53
    replace hc2 := Lib.hid hc2
    have FQ2_917 := Lib.hid (hq2)
    clear hq2
    go_wp2_with fail
    have FF_918 := Lib.hid (FF_913.out.step (al u53 (.cells #[.int .i64 20, .slice (some ⟨b2, o2, none⟩) 16 c2] 28)))
    clear FF_913
    have FQ1_919 := Lib.hid (FQ1_914.out.step (al u53 (.cells #[.int .i64 20, .slice (some ⟨b2, o2, none⟩) 16 c2] 28)))
    clear FQ1_914
    have FB1_920 := Lib.hid (FB1_915.out.step (al u53 (.cells #[.int .i64 20, .slice (some ⟨b2, o2, none⟩) 16 c2] 28)))
    clear FB1_915
    have FQ2_921 := Lib.hid (FQ2_917.out.step (al u53 (.cells #[.int .i64 20, .slice (some ⟨b2, o2, none⟩) 16 c2] 28)))
    clear FQ2_917
    have FB2_922 := Lib.hid (Cs.new u53 (u53.heap.size) #[.int .i64 20, .slice (some ⟨b2, o2, none⟩) 16 c2] 28 (by simp))
    have HB923 : Hid (Below w.heap.size w (u53.alloc (.cells #[.int .i64 20, .slice (some ⟨b2, o2, none⟩) 16 c2] 28))) := HB916.out.alloc HB916.out.size _
    clear HB916
    have xB20 := FB2_922.out.c 0 rfl
    have xB21 := FB2_922.out.c 1 rfl
    have xzB2 := FB2_922.out.2.2
    refine (acc_any 20 b2 o2 c2 q2 5 _ FQ2_921.out q_wf.2.2.1 hc2.out 20 0 q3 xacc.2.2.2.2.1 rfl xacc.2.2.2.2.2.1).mono ?_
    rintro e u54 ⟨b3, o3, c3, rfl, hc3, hq3, b54⟩
    clear xB20 xB21 xzB2
    have FF_924 := Lib.hid (FF_918.out.step b54)
    clear FF_918
    have FQ1_925 := Lib.hid (FQ1_919.out.step b54)
    clear FQ1_919
    have FB1_926 := Lib.hid (FB1_920.out.step b54)
    clear FB1_920
    have FQ2_927 := Lib.hid (FQ2_921.out.step b54)
    clear FQ2_921
    have FB2_928 := Lib.hid (FB2_922.out.step b54)
    clear FB2_922
    have HB929 := Lib.hid (keep2 b54 HB923.out)
    clear HB923 b54
    replace hc3 := Lib.hid hc3
    have FQ3_930 := Lib.hid (hq3)
    clear hq3
    go_wp2_with fail
    have FF_931 := Lib.hid (FF_924.out.step (al u54 (.cells #[.int .i64 20, .slice (some ⟨b3, o3, none⟩) 16 c3] 28)))
    clear FF_924
    have FQ1_932 := Lib.hid (FQ1_925.out.step (al u54 (.cells #[.int .i64 20, .slice (some ⟨b3, o3, none⟩) 16 c3] 28)))
    clear FQ1_925
    have FB1_933 := Lib.hid (FB1_926.out.step (al u54 (.cells #[.int .i64 20, .slice (some ⟨b3, o3, none⟩) 16 c3] 28)))
    clear FB1_926
    have FQ2_934 := Lib.hid (FQ2_927.out.step (al u54 (.cells #[.int .i64 20, .slice (some ⟨b3, o3, none⟩) 16 c3] 28)))
    clear FQ2_927
    have FB2_935 := Lib.hid (FB2_928.out.step (al u54 (.cells #[.int .i64 20, .slice (some ⟨b3, o3, none⟩) 16 c3] 28)))
    clear FB2_928
    have FQ3_936 := Lib.hid (FQ3_930.out.step (al u54 (.cells #[.int .i64 20, .slice (some ⟨b3, o3, none⟩) 16 c3] 28)))
    clear FQ3_930
    have FB3_937 := Lib.hid (Cs.new u54 (u54.heap.size) #[.int .i64 20, .slice (some ⟨b3, o3, none⟩) 16 c3] 28 (by simp))
    have HB938 : Hid (Below w.heap.size w (u54.alloc (.cells #[.int .i64 20, .slice (some ⟨b3, o3, none⟩) 16 c3] 28))) := HB929.out.alloc HB929.out.size _
    clear HB929
    have xB30 := FB3_937.out.c 0 rfl
    have xB31 := FB3_937.out.c 1 rfl
    have xzB3 := FB3_937.out.2.2
    refine (acc_any 20 b3 o3 c3 q3 4 _ FQ3_936.out q_wf.2.2.2 hc3.out 20 16 q3 xacc.2.2.2.2.2.2.1 xsame.1 xacc.2.2.2.2.2.2.2.1).mono ?_
    rintro e u55 ⟨b4, o4, c4, rfl, hc4, hq4, b55⟩
    clear xB30 xB31 xzB3
    have FF_939 := Lib.hid (FF_931.out.step b55)
    clear FF_931
    have FQ1_940 := Lib.hid (FQ1_932.out.step b55)
    clear FQ1_932
    have FB1_941 := Lib.hid (FB1_933.out.step b55)
    clear FB1_933
    have FQ2_942 := Lib.hid (FQ2_934.out.step b55)
    clear FQ2_934
    have FB2_943 := Lib.hid (FB2_935.out.step b55)
    clear FB2_935
    have FQ3_944 := Lib.hid (FQ3_936.out.step b55)
    clear FQ3_936
    have FB3_945 := Lib.hid (FB3_937.out.step b55)
    clear FB3_937
    have HB946 := Lib.hid (keep2 b55 HB938.out)
    clear HB938 b55
    replace hc4 := Lib.hid hc4
    have FQ4_947 := Lib.hid (hq4)
    clear hq4
    have vB30 := FB3_945.out.c 0 rfl
    have vB31 := FB3_945.out.c 1 rfl
    have vzB3 := FB3_945.out.2.2
    go_wp2_with fail
    have FF_948 := Lib.hid (FF_939.out.step (al u55 (.cells #[.int .i64 20, .slice (some ⟨b4, o4, none⟩) 16 c4] 28)))
    clear FF_939
    have FQ1_949 := Lib.hid (FQ1_940.out.step (al u55 (.cells #[.int .i64 20, .slice (some ⟨b4, o4, none⟩) 16 c4] 28)))
    clear FQ1_940
    have FB1_950 := Lib.hid (FB1_941.out.step (al u55 (.cells #[.int .i64 20, .slice (some ⟨b4, o4, none⟩) 16 c4] 28)))
    clear FB1_941
    have FQ2_951 := Lib.hid (FQ2_942.out.step (al u55 (.cells #[.int .i64 20, .slice (some ⟨b4, o4, none⟩) 16 c4] 28)))
    clear FQ2_942
    have FB2_952 := Lib.hid (FB2_943.out.step (al u55 (.cells #[.int .i64 20, .slice (some ⟨b4, o4, none⟩) 16 c4] 28)))
    clear FB2_943
    have FQ3_953 := Lib.hid (FQ3_944.out.step (al u55 (.cells #[.int .i64 20, .slice (some ⟨b4, o4, none⟩) 16 c4] 28)))
    clear FQ3_944
    have FB3_954 := Lib.hid (FB3_945.out.step (al u55 (.cells #[.int .i64 20, .slice (some ⟨b4, o4, none⟩) 16 c4] 28)))
    clear FB3_945
    have FQ4_955 := Lib.hid (FQ4_947.out.step (al u55 (.cells #[.int .i64 20, .slice (some ⟨b4, o4, none⟩) 16 c4] 28)))
    clear FQ4_947
    have FB4_956 := Lib.hid (Cs.new u55 (u55.heap.size) #[.int .i64 20, .slice (some ⟨b4, o4, none⟩) 16 c4] 28 (by simp))
    have HB957 : Hid (Below w.heap.size w (u55.alloc (.cells #[.int .i64 20, .slice (some ⟨b4, o4, none⟩) 16 c4] 28))) := HB946.out.alloc HB946.out.size _
    clear HB946
    have xB40 := FB4_956.out.c 0 rfl
    have xB41 := FB4_956.out.c 1 rfl
    have xzB4 := FB4_956.out.2.2
    refine (acc_any 20 b3 o3 c3 q3 20 _ FQ3_953.out q_wf.2.2.2 hc3.out 20 16 q3 xacc.2.2.2.2.2.2.2.2.1 xsame.2 xacc.2.2.2.2.2.2.2.2.2).mono ?_
    rintro e u56 ⟨b5, o5, c5, rfl, hc5, hq5, b56⟩
    clear vB30 vB31 vzB3 xB40 xB41 xzB4
    have FF_958 := Lib.hid (FF_948.out.step b56)
    clear FF_948
    have FQ1_959 := Lib.hid (FQ1_949.out.step b56)
    clear FQ1_949
    have FB1_960 := Lib.hid (FB1_950.out.step b56)
    clear FB1_950
    have FQ2_961 := Lib.hid (FQ2_951.out.step b56)
    clear FQ2_951
    have FB2_962 := Lib.hid (FB2_952.out.step b56)
    clear FB2_952
    have FQ3_963 := Lib.hid (FQ3_953.out.step b56)
    clear FQ3_953
    have FB3_964 := Lib.hid (FB3_954.out.step b56)
    clear FB3_954
    have FQ4_965 := Lib.hid (FQ4_955.out.step b56)
    clear FQ4_955
    have FB4_966 := Lib.hid (FB4_956.out.step b56)
    clear FB4_956
    have HB967 := Lib.hid (keep2 b56 HB957.out)
    clear HB957 b56
    replace hc5 := Lib.hid hc5
    have FQ5_968 := Lib.hid (hq5)
    clear hq5
    go_wp2_with fail
    have FF_969 := Lib.hid (FF_958.out.step (al u56 (.cells #[.int .i64 20, .slice (some ⟨b5, o5, none⟩) 16 c5] 28)))
    clear FF_958
    have FQ1_970 := Lib.hid (FQ1_959.out.step (al u56 (.cells #[.int .i64 20, .slice (some ⟨b5, o5, none⟩) 16 c5] 28)))
    clear FQ1_959
    have FB1_971 := Lib.hid (FB1_960.out.step (al u56 (.cells #[.int .i64 20, .slice (some ⟨b5, o5, none⟩) 16 c5] 28)))
    clear FB1_960
    have FQ2_972 := Lib.hid (FQ2_961.out.step (al u56 (.cells #[.int .i64 20, .slice (some ⟨b5, o5, none⟩) 16 c5] 28)))
    clear FQ2_961
    have FB2_973 := Lib.hid (FB2_962.out.step (al u56 (.cells #[.int .i64 20, .slice (some ⟨b5, o5, none⟩) 16 c5] 28)))
    clear FB2_962
    have FQ3_974 := Lib.hid (FQ3_963.out.step (al u56 (.cells #[.int .i64 20, .slice (some ⟨b5, o5, none⟩) 16 c5] 28)))
    clear FQ3_963
    have FB3_975 := Lib.hid (FB3_964.out.step (al u56 (.cells #[.int .i64 20, .slice (some ⟨b5, o5, none⟩) 16 c5] 28)))
    clear FB3_964
    have FQ4_976 := Lib.hid (FQ4_965.out.step (al u56 (.cells #[.int .i64 20, .slice (some ⟨b5, o5, none⟩) 16 c5] 28)))
    clear FQ4_965
    have FB4_977 := Lib.hid (FB4_966.out.step (al u56 (.cells #[.int .i64 20, .slice (some ⟨b5, o5, none⟩) 16 c5] 28)))
    clear FB4_966
    have FQ5_978 := Lib.hid (FQ5_968.out.step (al u56 (.cells #[.int .i64 20, .slice (some ⟨b5, o5, none⟩) 16 c5] 28)))
    clear FQ5_968
    have FB5_979 := Lib.hid (Cs.new u56 (u56.heap.size) #[.int .i64 20, .slice (some ⟨b5, o5, none⟩) 16 c5] 28 (by simp))
    have HB980 : Hid (Below w.heap.size w (u56.alloc (.cells #[.int .i64 20, .slice (some ⟨b5, o5, none⟩) 16 c5] 28))) := HB967.out.alloc HB967.out.size _
    clear HB967
    have xB50 := FB5_979.out.c 0 rfl
    have xB51 := FB5_979.out.c 1 rfl
    have xzB5 := FB5_979.out.2.2
    refine (accept_w0 0 none 0 0 [] 0 _ (bos_nil _) rfl (by decide) (isw_len 0 none 0 0 [] rfl (by decide) (by decide))).mono ?_
    rintro e u57 ⟨na, nc, rfl, -, -, b57⟩
    clear xB50 xB51 xzB5
    have FF_981 := Lib.hid (FF_969.out.step b57)
    clear FF_969
    have FQ1_982 := Lib.hid (FQ1_970.out.step b57)
    clear FQ1_970
    have FB1_983 := Lib.hid (FB1_971.out.step b57)
    clear FB1_971
    have FQ2_984 := Lib.hid (FQ2_972.out.step b57)
    clear FQ2_972
    have FB2_985 := Lib.hid (FB2_973.out.step b57)
    clear FB2_973
    have FQ3_986 := Lib.hid (FQ3_974.out.step b57)
    clear FQ3_974
    have FB3_987 := Lib.hid (FB3_975.out.step b57)
    clear FB3_975
    have FQ4_988 := Lib.hid (FQ4_976.out.step b57)
    clear FQ4_976
    have FB4_989 := Lib.hid (FB4_977.out.step b57)
    clear FB4_977
    have FQ5_990 := Lib.hid (FQ5_978.out.step b57)
    clear FQ5_978
    have FB5_991 := Lib.hid (FB5_979.out.step b57)
    clear FB5_979
    have HB992 := Lib.hid (keep2 b57 HB980.out)
    clear HB980 b57
    rw [show ([] : List Bool).length = 0 from rfl]
    have FF_993 := Lib.hid (FF_981.out.step (al u57 (.cells #[.int .i64 0, .slice na 0 nc] 28)))
    clear FF_981
    have FQ1_994 := Lib.hid (FQ1_982.out.step (al u57 (.cells #[.int .i64 0, .slice na 0 nc] 28)))
    clear FQ1_982
    have FB1_995 := Lib.hid (FB1_983.out.step (al u57 (.cells #[.int .i64 0, .slice na 0 nc] 28)))
    clear FB1_983
    have FQ2_996 := Lib.hid (FQ2_984.out.step (al u57 (.cells #[.int .i64 0, .slice na 0 nc] 28)))
    clear FQ2_984
    have FB2_997 := Lib.hid (FB2_985.out.step (al u57 (.cells #[.int .i64 0, .slice na 0 nc] 28)))
    clear FB2_985
    have FQ3_998 := Lib.hid (FQ3_986.out.step (al u57 (.cells #[.int .i64 0, .slice na 0 nc] 28)))
    clear FQ3_986
    have FB3_999 := Lib.hid (FB3_987.out.step (al u57 (.cells #[.int .i64 0, .slice na 0 nc] 28)))
    clear FB3_987
    have FQ4_1000 := Lib.hid (FQ4_988.out.step (al u57 (.cells #[.int .i64 0, .slice na 0 nc] 28)))
    clear FQ4_988
    have FB4_1001 := Lib.hid (FB4_989.out.step (al u57 (.cells #[.int .i64 0, .slice na 0 nc] 28)))
    clear FB4_989
    have FQ5_1002 := Lib.hid (FQ5_990.out.step (al u57 (.cells #[.int .i64 0, .slice na 0 nc] 28)))
    clear FQ5_990
    have FB5_1003 := Lib.hid (FB5_991.out.step (al u57 (.cells #[.int .i64 0, .slice na 0 nc] 28)))
    clear FB5_991
    have FB6_1004 := Lib.hid (Cs.new u57 (u57.heap.size) #[.int .i64 0, .slice na 0 nc] 28 (by simp))
    have HB1005 : Hid (Below w.heap.size w (u57.alloc (.cells #[.int .i64 0, .slice na 0 nc] 28))) := HB992.out.alloc HB992.out.size _
    clear HB992
    have xB10 := FB1_995.out.c 0 rfl
    have xB11 := FB1_995.out.c 1 rfl
    have xzB1 := FB1_995.out.2.2
    have xB20 := FB2_997.out.c 0 rfl
    have xB21 := FB2_997.out.c 1 rfl
    have xzB2 := FB2_997.out.2.2
    have xB30 := FB3_999.out.c 0 rfl
    have xB31 := FB3_999.out.c 1 rfl
    have xzB3 := FB3_999.out.2.2
    have r1 := bos_at FQ1_994.out 0 (by rw [q_wf.2.1.1]; decide)
    rw [xget.1] at r1
    rw [Nat.add_zero] at r1
    have r2 := bos_at FQ2_996.out 15 (by rw [q_wf.2.2.1.1]; decide)
    rw [xget.2.1] at r2
    have r3 := bos_at FQ3_998.out 15 (by rw [q_wf.2.2.2.1]; decide)
    rw [xget.2.2] at r3
    have xF0 := FF_993.out.c 0 rfl
    have xF1 := FF_993.out.c 1 rfl
    have xF2 := FF_993.out.c 2 rfl
    have xF3 := FF_993.out.c 3 rfl
    have xF4 := FF_993.out.c 4 rfl
    have xF5 := FF_993.out.c 5 rfl
    have xzF := FF_993.out.2.2
    go_wp2_with fail
    refine (valid_any 1 2 3 4 _ [] 0 _ (ints_nil _)).mono ?_
    rintro e u58 ⟨rfl, b58⟩
    clear xB10 xB11 xzB1 xB20 xB21 xzB2 xB30 xB31 xzB3 r1 r2 r3 xF0 xF1 xF2 xF3 xF4 xF5 xzF
    have FF_1006 := Lib.hid (FF_993.out.step b58)
    clear FF_993
    have FQ1_1007 := Lib.hid (FQ1_994.out.step b58)
    clear FQ1_994
    have FB1_1008 := Lib.hid (FB1_995.out.step b58)
    clear FB1_995
    have FQ2_1009 := Lib.hid (FQ2_996.out.step b58)
    clear FQ2_996
    have FB2_1010 := Lib.hid (FB2_997.out.step b58)
    clear FB2_997
    have FQ3_1011 := Lib.hid (FQ3_998.out.step b58)
    clear FQ3_998
    have FB3_1012 := Lib.hid (FB3_999.out.step b58)
    clear FB3_999
    have FQ4_1013 := Lib.hid (FQ4_1000.out.step b58)
    clear FQ4_1000
    have FB4_1014 := Lib.hid (FB4_1001.out.step b58)
    clear FB4_1001
    have FQ5_1015 := Lib.hid (FQ5_1002.out.step b58)
    clear FQ5_1002
    have FB5_1016 := Lib.hid (FB5_1003.out.step b58)
    clear FB5_1003
    have FB6_1017 := Lib.hid (FB6_1004.out.step b58)
    clear FB6_1004
    have HB1018 := Lib.hid (keep2 b58 HB1005.out)
    clear HB1005 b58
    rw [xV.2.2.1]
    go_wp2_with fail
    refine (valid_any (-1) 0 0 0 _ [] 0 _ (ints_nil _)).mono ?_
    rintro e u59 ⟨rfl, b59⟩
    have FF_1019 := Lib.hid (FF_1006.out.step b59)
    clear FF_1006
    have FQ1_1020 := Lib.hid (FQ1_1007.out.step b59)
    clear FQ1_1007
    have FB1_1021 := Lib.hid (FB1_1008.out.step b59)
    clear FB1_1008
    have FQ2_1022 := Lib.hid (FQ2_1009.out.step b59)
    clear FQ2_1009
    have FB2_1023 := Lib.hid (FB2_1010.out.step b59)
    clear FB2_1010
    have FQ3_1024 := Lib.hid (FQ3_1011.out.step b59)
    clear FQ3_1011
    have FB3_1025 := Lib.hid (FB3_1012.out.step b59)
    clear FB3_1012
    have FQ4_1026 := Lib.hid (FQ4_1013.out.step b59)
    clear FQ4_1013
    have FB4_1027 := Lib.hid (FB4_1014.out.step b59)
    clear FB4_1014
    have FQ5_1028 := Lib.hid (FQ5_1015.out.step b59)
    clear FQ5_1015
    have FB5_1029 := Lib.hid (FB5_1016.out.step b59)
    clear FB5_1016
    have FB6_1030 := Lib.hid (FB6_1017.out.step b59)
    clear FB6_1017
    have HB1031 := Lib.hid (keep2 b59 HB1018.out)
    clear HB1018 b59
    rw [xV.2.2.2.1]
    go_wp2
    go_ret
    exact ⟨rfl, HB1031.out⟩
end Go.Proofs.Ytebeaekiaikgmaa
