/- Leases: 'head'. -/
import Derived.Test.YtelohejnbfefoaaLh
namespace Go.Proofs.Ytelohejnbfefoaa
open Go.RowKit

theorem bos_lit (W : World) (l : List Bool) (cs : Array Value) (t : TypeId) (hc : cs.toList = l.map .bool) (hm : l.length ≤ 1000) (n : Nat) (hn : n = l.length) (b : Nat) (hb : b = W.heap.size) : BosAt (W.alloc (.cells cs t)) (.slice (some ⟨b, 0, none⟩) n n) l := by
  subst hn hb
  refine ⟨_, _, rfl, by unfold maxLen; omega, fun _ => ⟨W.heap.size, 0, rfl, fun i x hi => ?_⟩⟩
  rw [cell_new' W cs t _ (by rfl), ← Array.getElem?_toList, hc, List.getElem?_map, Nat.zero_add]
  simp [hi]
theorem vos_lit (W : World) (l : List Vo) (cs : Array Value) (t : TypeId) (hc : cs.toList = vcs l) (hm : l.length ≤ 1000) (n : Nat) (hn : n = l.length) (b : Nat) (hb : b = W.heap.size) : VosAt (W.alloc (.cells cs t)) (.slice (some ⟨b, 0, none⟩) n n) l := by
  subst hn hb
  refine ⟨_, _, rfl, by unfold maxLen; omega, fun _ => ⟨W.heap.size, 0, rfl, fun i x hi => ?_⟩⟩
  have hg := fun j hj => vcs_get l i x hi j hj
  simp only [cell_new' W cs t _ (by rfl), ← Array.getElem?_toList, hc, Nat.zero_add]
  exact ⟨(hg 0 (by omega)), (hg 1 (by omega)), (hg 2 (by omega))⟩
theorem hmk3 : ∀ w, (Instr.makeSlice 22 (.int .i64 3) (.int .i64 3)).run Try.prog w = .ok (.slice (some ⟨w.heap.size, 0, none⟩) 3 3) (w.alloc (.cells #[.int .i64 0, .int .i64 0, .int .i64 0, .int .i64 0, .int .i64 0, .int .i64 0, .int .i64 0, .int .i64 0, .int .i64 0] 25)) := fun _ => by kernel_rfl
theorem ew1 : EW [zV, zV, zV] [true, true, true] 0 100 60 [⟨1, 0, 160⟩, ⟨1, 0, 160⟩, ⟨1, 0, 160⟩] 0 1 160 0 := by
  have h := EW.ok (L := [zV, zV, zV]) (A := [true, true, true]) (hub := 0) (now := 100) (len := 60) 0 1 (100 + 60) (PW.ok (L := [zV, zV, zV]) (A := [true, true, true]) (hub := 0) (now := 100) (len := 60) 1 (by decide +kernel) (by decide +kernel) (by decide +kernel) (by decide +kernel)) (by decide +kernel)
  exact h
theorem ew2 : EW [⟨1, 0, 160⟩, ⟨1, 0, 160⟩, ⟨1, 0, 160⟩] [true, true, true] 1 150 60 [⟨1, 0, 160⟩, ⟨1, 0, 160⟩, ⟨1, 0, 160⟩] 0 0 0 22 := by
  have h := EW.few (L := [⟨1, 0, 160⟩, ⟨1, 0, 160⟩, ⟨1, 0, 160⟩]) (A := [true, true, true]) (hub := 1) (now := 150) (len := 60) 1 2 (150 + 60) (PW.ok (L := [⟨1, 0, 160⟩, ⟨1, 0, 160⟩, ⟨1, 0, 160⟩]) (A := [true, true, true]) (hub := 1) (now := 150) (len := 60) 2 (by decide +kernel) (by decide +kernel) (by decide +kernel) (by decide +kernel)) (by decide +kernel)
  exact h
theorem ew3 : EW [⟨1, 0, 160⟩, ⟨1, 0, 160⟩, ⟨1, 0, 160⟩] [true, true, false] 0 150 5 [⟨2, 0, 160⟩, ⟨2, 0, 160⟩, ⟨1, 0, 160⟩] 0 2 155 0 := by
  have h := EW.ok (L := [⟨1, 0, 160⟩, ⟨1, 0, 160⟩, ⟨1, 0, 160⟩]) (A := [true, true, false]) (hub := 0) (now := 150) (len := 5) 0 2 (150 + 5) (PW.ok (L := [⟨1, 0, 160⟩, ⟨1, 0, 160⟩, ⟨1, 0, 160⟩]) (A := [true, true, false]) (hub := 0) (now := 150) (len := 5) 2 (by decide +kernel) (by decide +kernel) (by decide +kernel) (by decide +kernel)) (by decide +kernel)
  exact h
theorem ew4 : EW [⟨2, 0, 160⟩, ⟨2, 0, 160⟩, ⟨1, 0, 160⟩] [false, true, true] 1 160 60 [⟨2, 0, 160⟩, ⟨3, 1, 220⟩, ⟨3, 1, 220⟩] 1 3 220 0 := by
  have h := EW.ok (L := [⟨2, 0, 160⟩, ⟨2, 0, 160⟩, ⟨1, 0, 160⟩]) (A := [false, true, true]) (hub := 1) (now := 160) (len := 60) 1 3 (160 + 60) (PW.ok (L := [⟨2, 0, 160⟩, ⟨2, 0, 160⟩, ⟨1, 0, 160⟩]) (A := [false, true, true]) (hub := 1) (now := 160) (len := 60) 3 (by decide +kernel) (by decide +kernel) (by decide +kernel) (by decide +kernel)) (by decide +kernel)
  exact h
theorem ew5 : EW [⟨2, 0, 160⟩, ⟨2, 0, 160⟩, ⟨1, 0, 160⟩] [false, true, true] 1 159 60 [⟨2, 0, 160⟩, ⟨2, 0, 160⟩, ⟨1, 0, 160⟩] 0 0 0 22 := by
  have h := EW.few (L := [⟨2, 0, 160⟩, ⟨2, 0, 160⟩, ⟨1, 0, 160⟩]) (A := [false, true, true]) (hub := 1) (now := 159) (len := 60) 1 3 (159 + 60) (PW.ok (L := [⟨2, 0, 160⟩, ⟨2, 0, 160⟩, ⟨1, 0, 160⟩]) (A := [false, true, true]) (hub := 1) (now := 159) (len := 60) 3 (by decide +kernel) (by decide +kernel) (by decide +kernel) (by decide +kernel)) (by decide +kernel)
  exact h
theorem pw6 : PW [⟨1, 0, 160⟩, ⟨1, 0, 160⟩, ⟨1, 0, 160⟩] [true, false, false] 0 0 1 0 0 0 22 := PW.few (by decide +kernel) (by decide +kernel)
set_option maxRecDepth 100000 in
set_option maxHeartbeats 16000000 in
theorem head_any (w : World) : Calls Try.prog 9 #[] w fun e w' => e = .returned (.bool true) ∧ Below w.heap.size w w' := by
  have hmk := hmk3
  have HB0 := Lib.hid (Below.refl w.heap.size w)
  go_enter Try.func9, Try.ntmps9
  have FA_1 := Lib.hid (bos_lit w [true, true, true] #[.bool true, .bool true, .bool true] 4 rfl (by decide) 3 rfl (w.heap.size) (by simp))
  have HB2 : Hid (Below w.heap.size w (w.alloc (.cells #[.bool true, .bool true, .bool true] 4))) := HB0.out.alloc HB0.out.size _
  clear HB0
  have FA_3 := Lib.hid (FA_1.out.step (al (w.alloc (.cells #[.bool true, .bool true, .bool true] 4)) (.cells #[.int .i64 0, .int .i64 0, .int .i64 0, .int .i64 0, .int .i64 0, .int .i64 0, .int .i64 0, .int .i64 0, .int .i64 0] 25)))
  clear FA_1
  have FZ_4 := Lib.hid (vos_lit (w.alloc (.cells #[.bool true, .bool true, .bool true] 4)) [zV, zV, zV] #[.int .i64 0, .int .i64 0, .int .i64 0, .int .i64 0, .int .i64 0, .int .i64 0, .int .i64 0, .int .i64 0, .int .i64 0] 25 rfl (by decide) 3 rfl (w.heap.size + 1) (by simp))
  have HB5 : Hid (Below w.heap.size w ((w.alloc (.cells #[.bool true, .bool true, .bool true] 4)).alloc (.cells #[.int .i64 0, .int .i64 0, .int .i64 0, .int .i64 0, .int .i64 0, .int .i64 0, .int .i64 0, .int .i64 0, .int .i64 0] 25))) := HB2.out.alloc HB2.out.size _
  clear HB2
  go_wp2_with fail
  refine (elect_any ew1 (.slice (some ⟨w.heap.size + 1, 0, none⟩) 3 3) (.slice (some ⟨w.heap.size, 0, none⟩) 3 3) _ FZ_4.out FA_3.out).mono ?_
  rintro e u1 ⟨ra, rfl, hra, b1⟩
  have FA_6 := Lib.hid (FA_3.out.step b1)
  clear FA_3
  have FZ_7 := Lib.hid (FZ_4.out.step b1)
  clear FZ_4
  have HB8 := Lib.hid (keep2 b1 HB5.out)
  clear HB5 b1
  have FVra_9 := Lib.hid (hra)
  clear hra
  clear FZ_7
  have FA_10 := Lib.hid (FA_6.out.step (al u1 (.cells #[.int .i64 0, .int .i64 1, .int .i64 160] 27)))
  clear FA_6
  have FVra_11 := Lib.hid (FVra_9.out.step (al u1 (.cells #[.int .i64 0, .int .i64 1, .int .i64 160] 27)))
  clear FVra_9
  have FX_12 := Lib.hid (Cs.new u1 (u1.heap.size) #[.int .i64 0, .int .i64 1, .int .i64 160] 27 (by simp))
  have HB13 : Hid (Below w.heap.size w (u1.alloc (.cells #[.int .i64 0, .int .i64 1, .int .i64 160] 27))) := HB8.out.alloc HB8.out.size _
  clear HB8
  go_wp2_with fail
  refine (elect_any ew2 ra (.slice (some ⟨w.heap.size, 0, none⟩) 3 3) _ FVra_11.out FA_10.out).mono ?_
  rintro e u2 ⟨rb, rfl, hrb, b2⟩
  have FA_14 := Lib.hid (FA_10.out.step b2)
  clear FA_10
  have FVra_15 := Lib.hid (FVra_11.out.step b2)
  clear FVra_11
  have FX_16 := Lib.hid (FX_12.out.step b2)
  clear FX_12
  have HB17 := Lib.hid (keep2 b2 HB13.out)
  clear HB13 b2
  have FVrb_18 := Lib.hid (hrb)
  clear hrb
  clear FA_14
  have FVra_19 := Lib.hid (FVra_15.out.step (al u2 (.cells #[.int .i64 0, .int .i64 0, .int .i64 0] 27)))
  clear FVra_15
  have FX_20 := Lib.hid (FX_16.out.step (al u2 (.cells #[.int .i64 0, .int .i64 0, .int .i64 0] 27)))
  clear FX_16
  have FVrb_21 := Lib.hid (FVrb_18.out.step (al u2 (.cells #[.int .i64 0, .int .i64 0, .int .i64 0] 27)))
  clear FVrb_18
  have FL2_22 := Lib.hid (Cs.new u2 (u2.heap.size) #[.int .i64 0, .int .i64 0, .int .i64 0] 27 (by simp))
  have HB23 : Hid (Below w.heap.size w (u2.alloc (.cells #[.int .i64 0, .int .i64 0, .int .i64 0] 27))) := HB17.out.alloc HB17.out.size _
  clear HB17
  clear FL2_22
  have FVra_24 := Lib.hid (FVra_19.out.step (al (u2.alloc (.cells #[.int .i64 0, .int .i64 0, .int .i64 0] 27)) (.cells #[.bool true, .bool true, .bool false] 4)))
  clear FVra_19
  have FX_25 := Lib.hid (FX_20.out.step (al (u2.alloc (.cells #[.int .i64 0, .int .i64 0, .int .i64 0] 27)) (.cells #[.bool true, .bool true, .bool false] 4)))
  clear FX_20
  have FVrb_26 := Lib.hid (FVrb_21.out.step (al (u2.alloc (.cells #[.int .i64 0, .int .i64 0, .int .i64 0] 27)) (.cells #[.bool true, .bool true, .bool false] 4)))
  clear FVrb_21
  have FA3_27 := Lib.hid (bos_lit (u2.alloc (.cells #[.int .i64 0, .int .i64 0, .int .i64 0] 27)) [true, true, false] #[.bool true, .bool true, .bool false] 4 rfl (by decide) 3 rfl (u2.heap.size + 1) (by simp))
  have HB28 : Hid (Below w.heap.size w ((u2.alloc (.cells #[.int .i64 0, .int .i64 0, .int .i64 0] 27)).alloc (.cells #[.bool true, .bool true, .bool false] 4))) := HB23.out.alloc HB23.out.size _
  clear HB23
  go_wp2_with fail
  refine (elect_any ew3 rb (.slice (some ⟨u2.heap.size + 1, 0, none⟩) 3 3) _ FVrb_26.out FA3_27.out).mono ?_
  rintro e u3 ⟨rc, rfl, hrc, b3⟩
  have FVra_29 := Lib.hid (FVra_24.out.step b3)
  clear FVra_24
  have FX_30 := Lib.hid (FX_25.out.step b3)
  clear FX_25
  have FVrb_31 := Lib.hid (FVrb_26.out.step b3)
  clear FVrb_26
  have FA3_32 := Lib.hid (FA3_27.out.step b3)
  clear FA3_27
  have HB33 := Lib.hid (keep2 b3 HB28.out)
  clear HB28 b3
  have FVrc_34 := Lib.hid (hrc)
  clear hrc
  clear FA3_32
  have FVra_35 := Lib.hid (FVra_29.out.step (al u3 (.cells #[.int .i64 0, .int .i64 2, .int .i64 155] 27)))
  clear FVra_29
  have FX_36 := Lib.hid (FX_30.out.step (al u3 (.cells #[.int .i64 0, .int .i64 2, .int .i64 155] 27)))
  clear FX_30
  have FVrb_37 := Lib.hid (FVrb_31.out.step (al u3 (.cells #[.int .i64 0, .int .i64 2, .int .i64 155] 27)))
  clear FVrb_31
  have FVrc_38 := Lib.hid (FVrc_34.out.step (al u3 (.cells #[.int .i64 0, .int .i64 2, .int .i64 155] 27)))
  clear FVrc_34
  have FY_39 := Lib.hid (Cs.new u3 (u3.heap.size) #[.int .i64 0, .int .i64 2, .int .i64 155] 27 (by simp))
  have HB40 : Hid (Below w.heap.size w (u3.alloc (.cells #[.int .i64 0, .int .i64 2, .int .i64 155] 27))) := HB33.out.alloc HB33.out.size _
  clear HB33
  have FVra_41 := Lib.hid (FVra_35.out.step (al (u3.alloc (.cells #[.int .i64 0, .int .i64 2, .int .i64 155] 27)) (.cells #[.bool false, .bool true, .bool true] 4)))
  clear FVra_35
  have FX_42 := Lib.hid (FX_36.out.step (al (u3.alloc (.cells #[.int .i64 0, .int .i64 2, .int .i64 155] 27)) (.cells #[.bool false, .bool true, .bool true] 4)))
  clear FX_36
  have FVrb_43 := Lib.hid (FVrb_37.out.step (al (u3.alloc (.cells #[.int .i64 0, .int .i64 2, .int .i64 155] 27)) (.cells #[.bool false, .bool true, .bool true] 4)))
  clear FVrb_37
  have FVrc_44 := Lib.hid (FVrc_38.out.step (al (u3.alloc (.cells #[.int .i64 0, .int .i64 2, .int .i64 155] 27)) (.cells #[.bool false, .bool true, .bool true] 4)))
  clear FVrc_38
  have FY_45 := Lib.hid (FY_39.out.step (al (u3.alloc (.cells #[.int .i64 0, .int .i64 2, .int .i64 155] 27)) (.cells #[.bool false, .bool true, .bool true] 4)))
  clear FY_39
  have FA4_46 := Lib.hid (bos_lit (u3.alloc (.cells #[.int .i64 0, .int .i64 2, .int .i64 155] 27)) [false, true, true] #[.bool false, .bool true, .bool true] 4 rfl (by decide) 3 rfl (u3.heap.size + 1) (by simp))
  have HB47 : Hid (Below w.heap.size w ((u3.alloc (.cells #[.int .i64 0, .int .i64 2, .int .i64 155] 27)).alloc (.cells #[.bool false, .bool true, .bool true] 4))) := HB40.out.alloc HB40.out.size _
  clear HB40
  go_wp2_with fail
  refine (elect_any ew4 rc (.slice (some ⟨u3.heap.size + 1, 0, none⟩) 3 3) _ FVrc_44.out FA4_46.out).mono ?_
  rintro e u4 ⟨rd, rfl, hrd, b4⟩
  have FVra_48 := Lib.hid (FVra_41.out.step b4)
  clear FVra_41
  have FX_49 := Lib.hid (FX_42.out.step b4)
  clear FX_42
  have FVrb_50 := Lib.hid (FVrb_43.out.step b4)
  clear FVrb_43
  have FVrc_51 := Lib.hid (FVrc_44.out.step b4)
  clear FVrc_44
  have FY_52 := Lib.hid (FY_45.out.step b4)
  clear FY_45
  have FA4_53 := Lib.hid (FA4_46.out.step b4)
  clear FA4_46
  have HB54 := Lib.hid (keep2 b4 HB47.out)
  clear HB47 b4
  have FVrd_55 := Lib.hid (hrd)
  clear hrd
  clear FA4_53
  clear FVrd_55
  have FVra_56 := Lib.hid (FVra_48.out.step (al u4 (.cells #[.int .i64 1, .int .i64 3, .int .i64 220] 27)))
  clear FVra_48
  have FX_57 := Lib.hid (FX_49.out.step (al u4 (.cells #[.int .i64 1, .int .i64 3, .int .i64 220] 27)))
  clear FX_49
  have FVrb_58 := Lib.hid (FVrb_50.out.step (al u4 (.cells #[.int .i64 1, .int .i64 3, .int .i64 220] 27)))
  clear FVrb_50
  have FVrc_59 := Lib.hid (FVrc_51.out.step (al u4 (.cells #[.int .i64 1, .int .i64 3, .int .i64 220] 27)))
  clear FVrc_51
  have FY_60 := Lib.hid (FY_52.out.step (al u4 (.cells #[.int .i64 1, .int .i64 3, .int .i64 220] 27)))
  clear FY_52
  have FZl_61 := Lib.hid (Cs.new u4 (u4.heap.size) #[.int .i64 1, .int .i64 3, .int .i64 220] 27 (by simp))
  have HB62 : Hid (Below w.heap.size w (u4.alloc (.cells #[.int .i64 1, .int .i64 3, .int .i64 220] 27))) := HB54.out.alloc HB54.out.size _
  clear HB54
  have FVra_63 := Lib.hid (FVra_56.out.step (al (u4.alloc (.cells #[.int .i64 1, .int .i64 3, .int .i64 220] 27)) (.cells #[.bool false, .bool true, .bool true] 4)))
  clear FVra_56
  have FX_64 := Lib.hid (FX_57.out.step (al (u4.alloc (.cells #[.int .i64 1, .int .i64 3, .int .i64 220] 27)) (.cells #[.bool false, .bool true, .bool true] 4)))
  clear FX_57
  have FVrb_65 := Lib.hid (FVrb_58.out.step (al (u4.alloc (.cells #[.int .i64 1, .int .i64 3, .int .i64 220] 27)) (.cells #[.bool false, .bool true, .bool true] 4)))
  clear FVrb_58
  have FVrc_66 := Lib.hid (FVrc_59.out.step (al (u4.alloc (.cells #[.int .i64 1, .int .i64 3, .int .i64 220] 27)) (.cells #[.bool false, .bool true, .bool true] 4)))
  clear FVrc_59
  have FY_67 := Lib.hid (FY_60.out.step (al (u4.alloc (.cells #[.int .i64 1, .int .i64 3, .int .i64 220] 27)) (.cells #[.bool false, .bool true, .bool true] 4)))
  clear FY_60
  have FZl_68 := Lib.hid (FZl_61.out.step (al (u4.alloc (.cells #[.int .i64 1, .int .i64 3, .int .i64 220] 27)) (.cells #[.bool false, .bool true, .bool true] 4)))
  clear FZl_61
  have FA5_69 := Lib.hid (bos_lit (u4.alloc (.cells #[.int .i64 1, .int .i64 3, .int .i64 220] 27)) [false, true, true] #[.bool false, .bool true, .bool true] 4 rfl (by decide) 3 rfl (u4.heap.size + 1) (by simp))
  have HB70 : Hid (Below w.heap.size w ((u4.alloc (.cells #[.int .i64 1, .int .i64 3, .int .i64 220] 27)).alloc (.cells #[.bool false, .bool true, .bool true] 4))) := HB62.out.alloc HB62.out.size _
  clear HB62
  go_wp2_with fail
  refine (elect_any ew5 rc (.slice (some ⟨u4.heap.size + 1, 0, none⟩) 3 3) _ FVrc_66.out FA5_69.out).mono ?_
  rintro e u5 ⟨re, rfl, hre, b5⟩
  have FVra_71 := Lib.hid (FVra_63.out.step b5)
  clear FVra_63
  have FX_72 := Lib.hid (FX_64.out.step b5)
  clear FX_64
  have FVrb_73 := Lib.hid (FVrb_65.out.step b5)
  clear FVrb_65
  have FVrc_74 := Lib.hid (FVrc_66.out.step b5)
  clear FVrc_66
  have FY_75 := Lib.hid (FY_67.out.step b5)
  clear FY_67
  have FZl_76 := Lib.hid (FZl_68.out.step b5)
  clear FZl_68
  have FA5_77 := Lib.hid (FA5_69.out.step b5)
  clear FA5_69
  have HB78 := Lib.hid (keep2 b5 HB70.out)
  clear HB70 b5
  have FVre_79 := Lib.hid (hre)
  clear hre
  clear FA5_77
  clear FVre_79
  have FVra_80 := Lib.hid (FVra_71.out.step (al u5 (.cells #[.int .i64 0, .int .i64 0, .int .i64 0] 27)))
  clear FVra_71
  have FX_81 := Lib.hid (FX_72.out.step (al u5 (.cells #[.int .i64 0, .int .i64 0, .int .i64 0] 27)))
  clear FX_72
  have FVrb_82 := Lib.hid (FVrb_73.out.step (al u5 (.cells #[.int .i64 0, .int .i64 0, .int .i64 0] 27)))
  clear FVrb_73
  have FVrc_83 := Lib.hid (FVrc_74.out.step (al u5 (.cells #[.int .i64 0, .int .i64 0, .int .i64 0] 27)))
  clear FVrc_74
  have FY_84 := Lib.hid (FY_75.out.step (al u5 (.cells #[.int .i64 0, .int .i64 0, .int .i64 0] 27)))
  clear FY_75
  have FZl_85 := Lib.hid (FZl_76.out.step (al u5 (.cells #[.int .i64 0, .int .i64 0, .int .i64 0] 27)))
  clear FZl_76
  have FL5_86 := Lib.hid (Cs.new u5 (u5.heap.size) #[.int .i64 0, .int .i64 0, .int .i64 0] 27 (by simp))
  have HB87 : Hid (Below w.heap.size w (u5.alloc (.cells #[.int .i64 0, .int .i64 0, .int .i64 0] 27))) := HB78.out.alloc HB78.out.size _
  clear HB78
  clear FL5_86
  have FVra_88 := Lib.hid (FVra_80.out.step (al (u5.alloc (.cells #[.int .i64 0, .int .i64 0, .int .i64 0] 27)) (.cells #[.bool true, .bool false, .bool false] 4)))
  clear FVra_80
  have FX_89 := Lib.hid (FX_81.out.step (al (u5.alloc (.cells #[.int .i64 0, .int .i64 0, .int .i64 0] 27)) (.cells #[.bool true, .bool false, .bool false] 4)))
  clear FX_81
  have FVrb_90 := Lib.hid (FVrb_82.out.step (al (u5.alloc (.cells #[.int .i64 0, .int .i64 0, .int .i64 0] 27)) (.cells #[.bool true, .bool false, .bool false] 4)))
  clear FVrb_82
  have FVrc_91 := Lib.hid (FVrc_83.out.step (al (u5.alloc (.cells #[.int .i64 0, .int .i64 0, .int .i64 0] 27)) (.cells #[.bool true, .bool false, .bool false] 4)))
  clear FVrc_83
  have FY_92 := Lib.hid (FY_84.out.step (al (u5.alloc (.cells #[.int .i64 0, .int .i64 0, .int .i64 0] 27)) (.cells #[.bool true, .bool false, .bool false] 4)))
  clear FY_84
  have FZl_93 := Lib.hid (FZl_85.out.step (al (u5.alloc (.cells #[.int .i64 0, .int .i64 0, .int .i64 0] 27)) (.cells #[.bool true, .bool false, .bool false] 4)))
  clear FZl_85
  have FA6_94 := Lib.hid (bos_lit (u5.alloc (.cells #[.int .i64 0, .int .i64 0, .int .i64 0] 27)) [true, false, false] #[.bool true, .bool false, .bool false] 4 rfl (by decide) 3 rfl (u5.heap.size + 1) (by simp))
  have HB95 : Hid (Below w.heap.size w ((u5.alloc (.cells #[.int .i64 0, .int .i64 0, .int .i64 0] 27)).alloc (.cells #[.bool true, .bool false, .bool false] 4))) := HB87.out.alloc HB87.out.size _
  clear HB87
  go_wp2_with fail
  refine (propose_any pw6 ra (.slice (some ⟨u5.heap.size + 1, 0, none⟩) 3 3) _ FVra_88.out FA6_94.out).mono ?_
  rintro e u6 ⟨rfl, b6⟩
  have FVra_96 := Lib.hid (FVra_88.out.step b6)
  clear FVra_88
  have FX_97 := Lib.hid (FX_89.out.step b6)
  clear FX_89
  have FVrb_98 := Lib.hid (FVrb_90.out.step b6)
  clear FVrb_90
  have FVrc_99 := Lib.hid (FVrc_91.out.step b6)
  clear FVrc_91
  have FY_100 := Lib.hid (FY_92.out.step b6)
  clear FY_92
  have FZl_101 := Lib.hid (FZl_93.out.step b6)
  clear FZl_93
  have FA6_102 := Lib.hid (FA6_94.out.step b6)
  clear FA6_94
  have HB103 := Lib.hid (keep2 b6 HB95.out)
  clear HB95 b6
  clear FA6_102
  have FVra_104 := Lib.hid (FVra_96.out.step (al u6 (.cells #[.int .i64 0, .int .i64 0, .int .i64 0] 27)))
  clear FVra_96
  have FX_105 := Lib.hid (FX_97.out.step (al u6 (.cells #[.int .i64 0, .int .i64 0, .int .i64 0] 27)))
  clear FX_97
  have FVrb_106 := Lib.hid (FVrb_98.out.step (al u6 (.cells #[.int .i64 0, .int .i64 0, .int .i64 0] 27)))
  clear FVrb_98
  have FVrc_107 := Lib.hid (FVrc_99.out.step (al u6 (.cells #[.int .i64 0, .int .i64 0, .int .i64 0] 27)))
  clear FVrc_99
  have FY_108 := Lib.hid (FY_100.out.step (al u6 (.cells #[.int .i64 0, .int .i64 0, .int .i64 0] 27)))
  clear FY_100
  have FZl_109 := Lib.hid (FZl_101.out.step (al u6 (.cells #[.int .i64 0, .int .i64 0, .int .i64 0] 27)))
  clear FZl_101
  have FL6_110 := Lib.hid (Cs.new u6 (u6.heap.size) #[.int .i64 0, .int .i64 0, .int .i64 0] 27 (by simp))
  have HB111 : Hid (Below w.heap.size w (u6.alloc (.cells #[.int .i64 0, .int .i64 0, .int .i64 0] 27))) := HB103.out.alloc HB103.out.size _
  clear HB103
  clear FL6_110
  have xX0 := FX_105.out.c 0 rfl
  have xX1 := FX_105.out.c 1 rfl
  have xX2 := FX_105.out.c 2 rfl
  have xzX := FX_105.out.2.2
  go_wp2_with fail
  refine (same_any ra rb _ _ true (by unfold smB; simp) _ FVra_104.out FVrb_106.out).mono ?_
  rintro e u7 ⟨rfl, b7⟩
  clear xX0 xX1 xX2 xzX
  have FVra_112 := Lib.hid (FVra_104.out.step b7)
  clear FVra_104
  have FX_113 := Lib.hid (FX_105.out.step b7)
  clear FX_105
  have FVrb_114 := Lib.hid (FVrb_106.out.step b7)
  clear FVrb_106
  have FVrc_115 := Lib.hid (FVrc_107.out.step b7)
  clear FVrc_107
  have FY_116 := Lib.hid (FY_108.out.step b7)
  clear FY_108
  have FZl_117 := Lib.hid (FZl_109.out.step b7)
  clear FZl_109
  have HB118 := Lib.hid (keep2 b7 HB111.out)
  clear HB111 b7
  clear FVra_112
  clear FVrb_114
  have xY0 := FY_116.out.c 0 rfl
  have xY1 := FY_116.out.c 1 rfl
  have xY2 := FY_116.out.c 2 rfl
  have xzY := FY_116.out.2.2
  have xX0 := FX_113.out.c 0 rfl
  have xX1 := FX_113.out.c 1 rfl
  have xX2 := FX_113.out.c 2 rfl
  have xzX := FX_113.out.2.2
  obtain ⟨ac, cc, rfl, -, hcs⟩ := FVrc_115.out
  obtain ⟨bc, oc, rfl, hcs2⟩ := hcs (by simp)
  obtain ⟨vx0, vx1, vx2⟩ := hcs2 0 _ rfl
  rw [Nat.zero_mul, Nat.add_zero] at vx0 vx1 vx2
  clear hcs hcs2
  have xZl0 := FZl_117.out.c 0 rfl
  have xZl1 := FZl_117.out.c 1 rfl
  have xZl2 := FZl_117.out.c 2 rfl
  have xzZl := FZl_117.out.2.2
  clear FVrc_115
  go_wp2_with fail
  refine (holds_any 0 1 160 159 _).mono ?_
  rintro e u8 ⟨rfl, b8⟩
  clear xY0 xY1 xY2 xzY xX0 xX1 xX2 xzX xZl0 xZl1 xZl2 xzZl
  have FX_119 := Lib.hid (FX_113.out.step b8)
  clear FX_113
  have FY_120 := Lib.hid (FY_116.out.step b8)
  clear FY_116
  have FZl_121 := Lib.hid (FZl_117.out.step b8)
  clear FZl_117
  have HB122 := Lib.hid (keep2 b8 HB118.out)
  clear HB118 b8
  rw [show hoB 1 160 159 = true from rfl]
  clear FY_120
  clear FZl_121
  clear vx0 vx1 vx2
  have xX0 := FX_119.out.c 0 rfl
  have xX1 := FX_119.out.c 1 rfl
  have xX2 := FX_119.out.c 2 rfl
  have xzX := FX_119.out.2.2
  go_wp2_with fail
  refine (holds_any 0 1 160 160 _).mono ?_
  rintro e u9 ⟨rfl, b9⟩
  clear xX0 xX1 xX2 xzX
  have FX_123 := Lib.hid (FX_119.out.step b9)
  clear FX_119
  have HB124 := Lib.hid (keep2 b9 HB122.out)
  clear HB122 b9
  rw [show hoB 1 160 160 = false from rfl]
  clear FX_123
  go_wp2
  go_ret
  exact ⟨rfl, HB124.out⟩
end Go.Proofs.Ytelohejnbfefoaa
