/- The walks of JoinMatchesReference and JoinSides. -/
import Derived.Test.YtoggmladiakblaaJn
namespace Go.Proofs.Ytoggmladiakblaa
open Go.RowKit

theorem rdevice_is (a b m : Int) (w : World) (hm : pw 7 b = m) : Calls Try.prog 11 #[.int .i64 a, .int .i64 b] w fun e w' => e = .returned (.tuple #[.agg (jc a b m 0 0 false false), .agg (hc3 1 m 0)]) ∧ Below w.heap.size w w' := by
  have := rdevice_any a b w; rwa [hm] at this
theorem rhub_is (a b m : Int) (w : World) (hm : pw 7 b = m) : Calls Try.prog 15 #[.int .i64 a, .int .i64 b] w fun e w' => e = .returned (.agg (jc a b m 0 0 true false)) ∧ Below w.heap.size w w' := by
  have := rhub_any a b w; rwa [hm] at this
set_option maxRecDepth 100000 in
set_option maxHeartbeats 4000000 in
theorem match_any (a b c s m o k : Int) (h d : Bool) (x y z : Int) (w : World) : Calls Try.prog 3 #[.int .i64 a, .int .i64 b, .agg (jc c s m o k h d), .agg (hc3 x y z)] w fun e w' => e = .returned (.bool true) ∧ Below w.heap.size w w' := by
  obtain ⟨er, J, H, hw⟩ := rw_total c s m o k h d x y z
  obtain ⟨c', s', m', o', k', h', d', x', y', z', rfl, rfl⟩ := rw_shape hw
  obtain ⟨q, hq⟩ : ∃ q, pw 7 b = q := ⟨_, rfl⟩
  replace hw := Lib.hid hw
  replace hq := Lib.hid hq
  have HB0 := Lib.hid (Below.refl w.heap.size w)
  go_enter Try.func3, Try.ntmps3
  have KP_1 := Lib.hid (Cs.new w (w.heap.size) #[.int .i64 c, .int .i64 s, .int .i64 m, .int .i64 o, .int .i64 k, .bool h, .bool d] 23 (by simp))
  have HB2 : Hid (Below w.heap.size w (w.alloc (.cells #[.int .i64 c, .int .i64 s, .int .i64 m, .int .i64 o, .int .i64 k, .bool h, .bool d] 23))) := HB0.out.alloc HB0.out.size _
  clear HB0
  have KP_3 := Lib.hid (KP_1.out.alloc (.cells #[.int .i64 x, .int .i64 y, .int .i64 z] 25))
  clear KP_1
  have KQ_4 := Lib.hid (Cs.new (w.alloc (.cells #[.int .i64 c, .int .i64 s, .int .i64 m, .int .i64 o, .int .i64 k, .bool h, .bool d] 23)) (w.heap.size + 1) #[.int .i64 x, .int .i64 y, .int .i64 z] 25 (by simp))
  have HB5 : Hid (Below w.heap.size w ((w.alloc (.cells #[.int .i64 c, .int .i64 s, .int .i64 m, .int .i64 o, .int .i64 k, .bool h, .bool d] 23)).alloc (.cells #[.int .i64 x, .int .i64 y, .int .i64 z] 25))) := HB2.out.alloc HB2.out.size _
  clear HB2
  go_wp2_with fail
  refine (head_any _).mono ?_
  rintro e u1 ⟨rfl, b1⟩
  have KP_6 := Lib.hid (KP_3.out.step b1)
  clear KP_3
  have KQ_7 := Lib.hid (KQ_4.out.step b1)
  clear KQ_4
  have HB8 := Lib.hid (keep2 b1 HB5.out)
  clear HB5 b1
  go_wp2_with fail
  refine (device_is a b q _ hq.out).mono ?_
  rintro e u2 ⟨rfl, b2⟩
  have KP_9 := Lib.hid (KP_6.out.step b2)
  clear KP_6
  have KQ_10 := Lib.hid (KQ_7.out.step b2)
  clear KQ_7
  have HB11 := Lib.hid (keep2 b2 HB8.out)
  clear HB8 b2
  have KP_12 := Lib.hid (KP_9.out.alloc (.cells #[.int .i64 a, .int .i64 b, .int .i64 q, .int .i64 0, .int .i64 0, .bool false, .bool false] 23))
  clear KP_9
  have KQ_13 := Lib.hid (KQ_10.out.alloc (.cells #[.int .i64 a, .int .i64 b, .int .i64 q, .int .i64 0, .int .i64 0, .bool false, .bool false] 23))
  clear KQ_10
  have KA_14 := Lib.hid (Cs.new u2 (u2.heap.size) #[.int .i64 a, .int .i64 b, .int .i64 q, .int .i64 0, .int .i64 0, .bool false, .bool false] 23 (by simp))
  have HB15 : Hid (Below w.heap.size w (u2.alloc (.cells #[.int .i64 a, .int .i64 b, .int .i64 q, .int .i64 0, .int .i64 0, .bool false, .bool false] 23))) := HB11.out.alloc HB11.out.size _
  clear HB11
  have KP_16 := Lib.hid (KP_12.out.alloc (.cells #[.int .i64 1, .int .i64 q, .int .i64 0] 25))
  clear KP_12
  have KQ_17 := Lib.hid (KQ_13.out.alloc (.cells #[.int .i64 1, .int .i64 q, .int .i64 0] 25))
  clear KQ_13
  have KA_18 := Lib.hid (KA_14.out.alloc (.cells #[.int .i64 1, .int .i64 q, .int .i64 0] 25))
  clear KA_14
  have KB_19 := Lib.hid (Cs.new (u2.alloc (.cells #[.int .i64 a, .int .i64 b, .int .i64 q, .int .i64 0, .int .i64 0, .bool false, .bool false] 23)) (u2.heap.size + 1) #[.int .i64 1, .int .i64 q, .int .i64 0] 25 (by simp))
  have HB20 : Hid (Below w.heap.size w ((u2.alloc (.cells #[.int .i64 a, .int .i64 b, .int .i64 q, .int .i64 0, .int .i64 0, .bool false, .bool false] 23)).alloc (.cells #[.int .i64 1, .int .i64 q, .int .i64 0] 25))) := HB15.out.alloc HB15.out.size _
  clear HB15
  go_wp2_with fail
  refine (rdevice_is a b q _ hq.out).mono ?_
  rintro e u3 ⟨rfl, b3⟩
  have KP_21 := Lib.hid (KP_16.out.step b3)
  clear KP_16
  have KQ_22 := Lib.hid (KQ_17.out.step b3)
  clear KQ_17
  have KA_23 := Lib.hid (KA_18.out.step b3)
  clear KA_18
  have KB_24 := Lib.hid (KB_19.out.step b3)
  clear KB_19
  have HB25 := Lib.hid (keep2 b3 HB20.out)
  clear HB20 b3
  have KP_26 := Lib.hid (KP_21.out.alloc (.cells #[.int .i64 a, .int .i64 b, .int .i64 q, .int .i64 0, .int .i64 0, .bool false, .bool false] 23))
  clear KP_21
  have KQ_27 := Lib.hid (KQ_22.out.alloc (.cells #[.int .i64 a, .int .i64 b, .int .i64 q, .int .i64 0, .int .i64 0, .bool false, .bool false] 23))
  clear KQ_22
  have KA_28 := Lib.hid (KA_23.out.alloc (.cells #[.int .i64 a, .int .i64 b, .int .i64 q, .int .i64 0, .int .i64 0, .bool false, .bool false] 23))
  clear KA_23
  have KB_29 := Lib.hid (KB_24.out.alloc (.cells #[.int .i64 a, .int .i64 b, .int .i64 q, .int .i64 0, .int .i64 0, .bool false, .bool false] 23))
  clear KB_24
  have KC_30 := Lib.hid (Cs.new u3 (u3.heap.size) #[.int .i64 a, .int .i64 b, .int .i64 q, .int .i64 0, .int .i64 0, .bool false, .bool false] 23 (by simp))
  have HB31 : Hid (Below w.heap.size w (u3.alloc (.cells #[.int .i64 a, .int .i64 b, .int .i64 q, .int .i64 0, .int .i64 0, .bool false, .bool false] 23))) := HB25.out.alloc HB25.out.size _
  clear HB25
  have KP_32 := Lib.hid (KP_26.out.alloc (.cells #[.int .i64 1, .int .i64 q, .int .i64 0] 25))
  clear KP_26
  have KQ_33 := Lib.hid (KQ_27.out.alloc (.cells #[.int .i64 1, .int .i64 q, .int .i64 0] 25))
  clear KQ_27
  have KA_34 := Lib.hid (KA_28.out.alloc (.cells #[.int .i64 1, .int .i64 q, .int .i64 0] 25))
  clear KA_28
  have KB_35 := Lib.hid (KB_29.out.alloc (.cells #[.int .i64 1, .int .i64 q, .int .i64 0] 25))
  clear KB_29
  have KC_36 := Lib.hid (KC_30.out.alloc (.cells #[.int .i64 1, .int .i64 q, .int .i64 0] 25))
  clear KC_30
  have KD_37 := Lib.hid (Cs.new (u3.alloc (.cells #[.int .i64 a, .int .i64 b, .int .i64 q, .int .i64 0, .int .i64 0, .bool false, .bool false] 23)) (u3.heap.size + 1) #[.int .i64 1, .int .i64 q, .int .i64 0] 25 (by simp))
  have HB38 : Hid (Below w.heap.size w ((u3.alloc (.cells #[.int .i64 a, .int .i64 b, .int .i64 q, .int .i64 0, .int .i64 0, .bool false, .bool false] 23)).alloc (.cells #[.int .i64 1, .int .i64 q, .int .i64 0] 25))) := HB31.out.alloc HB31.out.size _
  clear HB31
  have xP0 : ((u3.alloc (.cells #[.int .i64 a, .int .i64 b, .int .i64 q, .int .i64 0, .int .i64 0, .bool false, .bool false] 23)).alloc (.cells #[.int .i64 1, .int .i64 q, .int .i64 0] 25)).cell? ⟨w.heap.size, 0, none⟩ = some (.int .i64 c) := KP_32.out.c 0 rfl
  have xP1 : ((u3.alloc (.cells #[.int .i64 a, .int .i64 b, .int .i64 q, .int .i64 0, .int .i64 0, .bool false, .bool false] 23)).alloc (.cells #[.int .i64 1, .int .i64 q, .int .i64 0] 25)).cell? ⟨w.heap.size, 1, none⟩ = some (.int .i64 s) := KP_32.out.c 1 rfl
  have xP2 : ((u3.alloc (.cells #[.int .i64 a, .int .i64 b, .int .i64 q, .int .i64 0, .int .i64 0, .bool false, .bool false] 23)).alloc (.cells #[.int .i64 1, .int .i64 q, .int .i64 0] 25)).cell? ⟨w.heap.size, 2, none⟩ = some (.int .i64 m) := KP_32.out.c 2 rfl
  have xP3 : ((u3.alloc (.cells #[.int .i64 a, .int .i64 b, .int .i64 q, .int .i64 0, .int .i64 0, .bool false, .bool false] 23)).alloc (.cells #[.int .i64 1, .int .i64 q, .int .i64 0] 25)).cell? ⟨w.heap.size, 3, none⟩ = some (.int .i64 o) := KP_32.out.c 3 rfl
  have xP4 : ((u3.alloc (.cells #[.int .i64 a, .int .i64 b, .int .i64 q, .int .i64 0, .int .i64 0, .bool false, .bool false] 23)).alloc (.cells #[.int .i64 1, .int .i64 q, .int .i64 0] 25)).cell? ⟨w.heap.size, 4, none⟩ = some (.int .i64 k) := KP_32.out.c 4 rfl
  have xP5 : ((u3.alloc (.cells #[.int .i64 a, .int .i64 b, .int .i64 q, .int .i64 0, .int .i64 0, .bool false, .bool false] 23)).alloc (.cells #[.int .i64 1, .int .i64 q, .int .i64 0] 25)).cell? ⟨w.heap.size, 5, none⟩ = some (.bool h) := KP_32.out.c 5 rfl
  have xP6 : ((u3.alloc (.cells #[.int .i64 a, .int .i64 b, .int .i64 q, .int .i64 0, .int .i64 0, .bool false, .bool false] 23)).alloc (.cells #[.int .i64 1, .int .i64 q, .int .i64 0] 25)).cell? ⟨w.heap.size, 6, none⟩ = some (.bool d) := KP_32.out.c 6 rfl
  have zP : w.heap.size < ((u3.alloc (.cells #[.int .i64 a, .int .i64 b, .int .i64 q, .int .i64 0, .int .i64 0, .bool false, .bool false] 23)).alloc (.cells #[.int .i64 1, .int .i64 q, .int .i64 0] 25)).heap.size := KP_32.out.2.2
  have z2P : w.heap.size < ((u3.alloc (.cells #[.int .i64 a, .int .i64 b, .int .i64 q, .int .i64 0, .int .i64 0, .bool false, .bool false] 23)).alloc (.cells #[.int .i64 1, .int .i64 q, .int .i64 0] 25)).heap.size + 1 := by omega
  have xQ0 : ((u3.alloc (.cells #[.int .i64 a, .int .i64 b, .int .i64 q, .int .i64 0, .int .i64 0, .bool false, .bool false] 23)).alloc (.cells #[.int .i64 1, .int .i64 q, .int .i64 0] 25)).cell? ⟨w.heap.size + 1, 0, none⟩ = some (.int .i64 x) := KQ_33.out.c 0 rfl
  have xQ1 : ((u3.alloc (.cells #[.int .i64 a, .int .i64 b, .int .i64 q, .int .i64 0, .int .i64 0, .bool false, .bool false] 23)).alloc (.cells #[.int .i64 1, .int .i64 q, .int .i64 0] 25)).cell? ⟨w.heap.size + 1, 1, none⟩ = some (.int .i64 y) := KQ_33.out.c 1 rfl
  have xQ2 : ((u3.alloc (.cells #[.int .i64 a, .int .i64 b, .int .i64 q, .int .i64 0, .int .i64 0, .bool false, .bool false] 23)).alloc (.cells #[.int .i64 1, .int .i64 q, .int .i64 0] 25)).cell? ⟨w.heap.size + 1, 2, none⟩ = some (.int .i64 z) := KQ_33.out.c 2 rfl
  have zQ : w.heap.size + 1 < ((u3.alloc (.cells #[.int .i64 a, .int .i64 b, .int .i64 q, .int .i64 0, .int .i64 0, .bool false, .bool false] 23)).alloc (.cells #[.int .i64 1, .int .i64 q, .int .i64 0] 25)).heap.size := KQ_33.out.2.2
  have z2Q : w.heap.size + 1 < ((u3.alloc (.cells #[.int .i64 a, .int .i64 b, .int .i64 q, .int .i64 0, .int .i64 0, .bool false, .bool false] 23)).alloc (.cells #[.int .i64 1, .int .i64 q, .int .i64 0] 25)).heap.size + 1 := by omega
  go_wp2_with fail
  refine (recv_is c s m o k h d x y z er _ _ _ hw.out).mono ?_
  rintro e u4 ⟨rfl, b4⟩
  clear xP0 xP1 xP2 xP3 xP4 xP5 xP6 zP z2P xQ0 xQ1 xQ2 zQ z2Q
  have KP_39 := Lib.hid (KP_32.out.step b4)
  clear KP_32
  have KQ_40 := Lib.hid (KQ_33.out.step b4)
  clear KQ_33
  have KA_41 := Lib.hid (KA_34.out.step b4)
  clear KA_34
  have KB_42 := Lib.hid (KB_35.out.step b4)
  clear KB_35
  have KC_43 := Lib.hid (KC_36.out.step b4)
  clear KC_36
  have KD_44 := Lib.hid (KD_37.out.step b4)
  clear KD_37
  have HB45 := Lib.hid (keep2 b4 HB38.out)
  clear HB38 b4
  have KP_46 := Lib.hid (KP_39.out.alloc (.cells #[.int .i64 c', .int .i64 s', .int .i64 m', .int .i64 o', .int .i64 k', .bool h', .bool d'] 23))
  clear KP_39
  have KQ_47 := Lib.hid (KQ_40.out.alloc (.cells #[.int .i64 c', .int .i64 s', .int .i64 m', .int .i64 o', .int .i64 k', .bool h', .bool d'] 23))
  clear KQ_40
  have KA_48 := Lib.hid (KA_41.out.alloc (.cells #[.int .i64 c', .int .i64 s', .int .i64 m', .int .i64 o', .int .i64 k', .bool h', .bool d'] 23))
  clear KA_41
  have KB_49 := Lib.hid (KB_42.out.alloc (.cells #[.int .i64 c', .int .i64 s', .int .i64 m', .int .i64 o', .int .i64 k', .bool h', .bool d'] 23))
  clear KB_42
  have KC_50 := Lib.hid (KC_43.out.alloc (.cells #[.int .i64 c', .int .i64 s', .int .i64 m', .int .i64 o', .int .i64 k', .bool h', .bool d'] 23))
  clear KC_43
  have KD_51 := Lib.hid (KD_44.out.alloc (.cells #[.int .i64 c', .int .i64 s', .int .i64 m', .int .i64 o', .int .i64 k', .bool h', .bool d'] 23))
  clear KD_44
  have KE_52 := Lib.hid (Cs.new u4 (u4.heap.size) #[.int .i64 c', .int .i64 s', .int .i64 m', .int .i64 o', .int .i64 k', .bool h', .bool d'] 23 (by simp))
  have HB53 : Hid (Below w.heap.size w (u4.alloc (.cells #[.int .i64 c', .int .i64 s', .int .i64 m', .int .i64 o', .int .i64 k', .bool h', .bool d'] 23))) := HB45.out.alloc HB45.out.size _
  clear HB45
  have KP_54 := Lib.hid (KP_46.out.alloc (.cells #[.int .i64 x', .int .i64 y', .int .i64 z'] 25))
  clear KP_46
  have KQ_55 := Lib.hid (KQ_47.out.alloc (.cells #[.int .i64 x', .int .i64 y', .int .i64 z'] 25))
  clear KQ_47
  have KA_56 := Lib.hid (KA_48.out.alloc (.cells #[.int .i64 x', .int .i64 y', .int .i64 z'] 25))
  clear KA_48
  have KB_57 := Lib.hid (KB_49.out.alloc (.cells #[.int .i64 x', .int .i64 y', .int .i64 z'] 25))
  clear KB_49
  have KC_58 := Lib.hid (KC_50.out.alloc (.cells #[.int .i64 x', .int .i64 y', .int .i64 z'] 25))
  clear KC_50
  have KD_59 := Lib.hid (KD_51.out.alloc (.cells #[.int .i64 x', .int .i64 y', .int .i64 z'] 25))
  clear KD_51
  have KE_60 := Lib.hid (KE_52.out.alloc (.cells #[.int .i64 x', .int .i64 y', .int .i64 z'] 25))
  clear KE_52
  have KF_61 := Lib.hid (Cs.new (u4.alloc (.cells #[.int .i64 c', .int .i64 s', .int .i64 m', .int .i64 o', .int .i64 k', .bool h', .bool d'] 23)) (u4.heap.size + 1) #[.int .i64 x', .int .i64 y', .int .i64 z'] 25 (by simp))
  have HB62 : Hid (Below w.heap.size w ((u4.alloc (.cells #[.int .i64 c', .int .i64 s', .int .i64 m', .int .i64 o', .int .i64 k', .bool h', .bool d'] 23)).alloc (.cells #[.int .i64 x', .int .i64 y', .int .i64 z'] 25))) := HB53.out.alloc HB53.out.size _
  clear HB53
  have xP0 : ((u4.alloc (.cells #[.int .i64 c', .int .i64 s', .int .i64 m', .int .i64 o', .int .i64 k', .bool h', .bool d'] 23)).alloc (.cells #[.int .i64 x', .int .i64 y', .int .i64 z'] 25)).cell? ⟨w.heap.size, 0, none⟩ = some (.int .i64 c) := KP_54.out.c 0 rfl
  have xP1 : ((u4.alloc (.cells #[.int .i64 c', .int .i64 s', .int .i64 m', .int .i64 o', .int .i64 k', .bool h', .bool d'] 23)).alloc (.cells #[.int .i64 x', .int .i64 y', .int .i64 z'] 25)).cell? ⟨w.heap.size, 1, none⟩ = some (.int .i64 s) := KP_54.out.c 1 rfl
  have xP2 : ((u4.alloc (.cells #[.int .i64 c', .int .i64 s', .int .i64 m', .int .i64 o', .int .i64 k', .bool h', .bool d'] 23)).alloc (.cells #[.int .i64 x', .int .i64 y', .int .i64 z'] 25)).cell? ⟨w.heap.size, 2, none⟩ = some (.int .i64 m) := KP_54.out.c 2 rfl
  have xP3 : ((u4.alloc (.cells #[.int .i64 c', .int .i64 s', .int .i64 m', .int .i64 o', .int .i64 k', .bool h', .bool d'] 23)).alloc (.cells #[.int .i64 x', .int .i64 y', .int .i64 z'] 25)).cell? ⟨w.heap.size, 3, none⟩ = some (.int .i64 o) := KP_54.out.c 3 rfl
  have xP4 : ((u4.alloc (.cells #[.int .i64 c', .int .i64 s', .int .i64 m', .int .i64 o', .int .i64 k', .bool h', .bool d'] 23)).alloc (.cells #[.int .i64 x', .int .i64 y', .int .i64 z'] 25)).cell? ⟨w.heap.size, 4, none⟩ = some (.int .i64 k) := KP_54.out.c 4 rfl
  have xP5 : ((u4.alloc (.cells #[.int .i64 c', .int .i64 s', .int .i64 m', .int .i64 o', .int .i64 k', .bool h', .bool d'] 23)).alloc (.cells #[.int .i64 x', .int .i64 y', .int .i64 z'] 25)).cell? ⟨w.heap.size, 5, none⟩ = some (.bool h) := KP_54.out.c 5 rfl
  have xP6 : ((u4.alloc (.cells #[.int .i64 c', .int .i64 s', .int .i64 m', .int .i64 o', .int .i64 k', .bool h', .bool d'] 23)).alloc (.cells #[.int .i64 x', .int .i64 y', .int .i64 z'] 25)).cell? ⟨w.heap.size, 6, none⟩ = some (.bool d) := KP_54.out.c 6 rfl
  have zP : w.heap.size < ((u4.alloc (.cells #[.int .i64 c', .int .i64 s', .int .i64 m', .int .i64 o', .int .i64 k', .bool h', .bool d'] 23)).alloc (.cells #[.int .i64 x', .int .i64 y', .int .i64 z'] 25)).heap.size := KP_54.out.2.2
  have z2P : w.heap.size < ((u4.alloc (.cells #[.int .i64 c', .int .i64 s', .int .i64 m', .int .i64 o', .int .i64 k', .bool h', .bool d'] 23)).alloc (.cells #[.int .i64 x', .int .i64 y', .int .i64 z'] 25)).heap.size + 1 := by omega
  have xQ0 : ((u4.alloc (.cells #[.int .i64 c', .int .i64 s', .int .i64 m', .int .i64 o', .int .i64 k', .bool h', .bool d'] 23)).alloc (.cells #[.int .i64 x', .int .i64 y', .int .i64 z'] 25)).cell? ⟨w.heap.size + 1, 0, none⟩ = some (.int .i64 x) := KQ_55.out.c 0 rfl
  have xQ1 : ((u4.alloc (.cells #[.int .i64 c', .int .i64 s', .int .i64 m', .int .i64 o', .int .i64 k', .bool h', .bool d'] 23)).alloc (.cells #[.int .i64 x', .int .i64 y', .int .i64 z'] 25)).cell? ⟨w.heap.size + 1, 1, none⟩ = some (.int .i64 y) := KQ_55.out.c 1 rfl
  have xQ2 : ((u4.alloc (.cells #[.int .i64 c', .int .i64 s', .int .i64 m', .int .i64 o', .int .i64 k', .bool h', .bool d'] 23)).alloc (.cells #[.int .i64 x', .int .i64 y', .int .i64 z'] 25)).cell? ⟨w.heap.size + 1, 2, none⟩ = some (.int .i64 z) := KQ_55.out.c 2 rfl
  have zQ : w.heap.size + 1 < ((u4.alloc (.cells #[.int .i64 c', .int .i64 s', .int .i64 m', .int .i64 o', .int .i64 k', .bool h', .bool d'] 23)).alloc (.cells #[.int .i64 x', .int .i64 y', .int .i64 z'] 25)).heap.size := KQ_55.out.2.2
  have z2Q : w.heap.size + 1 < ((u4.alloc (.cells #[.int .i64 c', .int .i64 s', .int .i64 m', .int .i64 o', .int .i64 k', .bool h', .bool d'] 23)).alloc (.cells #[.int .i64 x', .int .i64 y', .int .i64 z'] 25)).heap.size + 1 := by omega
  go_wp2_with fail
  refine (rrecv_any hw.out _).mono ?_
  rintro e u5 ⟨rfl, b5⟩
  clear xP0 xP1 xP2 xP3 xP4 xP5 xP6 zP z2P xQ0 xQ1 xQ2 zQ z2Q
  have KP_63 := Lib.hid (KP_54.out.step b5)
  clear KP_54
  have KQ_64 := Lib.hid (KQ_55.out.step b5)
  clear KQ_55
  have KA_65 := Lib.hid (KA_56.out.step b5)
  clear KA_56
  have KB_66 := Lib.hid (KB_57.out.step b5)
  clear KB_57
  have KC_67 := Lib.hid (KC_58.out.step b5)
  clear KC_58
  have KD_68 := Lib.hid (KD_59.out.step b5)
  clear KD_59
  have KE_69 := Lib.hid (KE_60.out.step b5)
  clear KE_60
  have KF_70 := Lib.hid (KF_61.out.step b5)
  clear KF_61
  have HB71 := Lib.hid (keep2 b5 HB62.out)
  clear HB62 b5
  have KP_72 := Lib.hid (KP_63.out.alloc (.cells #[.int .i64 c', .int .i64 s', .int .i64 m', .int .i64 o', .int .i64 k', .bool h', .bool d'] 23))
  clear KP_63
  have KQ_73 := Lib.hid (KQ_64.out.alloc (.cells #[.int .i64 c', .int .i64 s', .int .i64 m', .int .i64 o', .int .i64 k', .bool h', .bool d'] 23))
  clear KQ_64
  have KA_74 := Lib.hid (KA_65.out.alloc (.cells #[.int .i64 c', .int .i64 s', .int .i64 m', .int .i64 o', .int .i64 k', .bool h', .bool d'] 23))
  clear KA_65
  have KB_75 := Lib.hid (KB_66.out.alloc (.cells #[.int .i64 c', .int .i64 s', .int .i64 m', .int .i64 o', .int .i64 k', .bool h', .bool d'] 23))
  clear KB_66
  have KC_76 := Lib.hid (KC_67.out.alloc (.cells #[.int .i64 c', .int .i64 s', .int .i64 m', .int .i64 o', .int .i64 k', .bool h', .bool d'] 23))
  clear KC_67
  have KD_77 := Lib.hid (KD_68.out.alloc (.cells #[.int .i64 c', .int .i64 s', .int .i64 m', .int .i64 o', .int .i64 k', .bool h', .bool d'] 23))
  clear KD_68
  have KE_78 := Lib.hid (KE_69.out.alloc (.cells #[.int .i64 c', .int .i64 s', .int .i64 m', .int .i64 o', .int .i64 k', .bool h', .bool d'] 23))
  clear KE_69
  have KF_79 := Lib.hid (KF_70.out.alloc (.cells #[.int .i64 c', .int .i64 s', .int .i64 m', .int .i64 o', .int .i64 k', .bool h', .bool d'] 23))
  clear KF_70
  have KG_80 := Lib.hid (Cs.new u5 (u5.heap.size) #[.int .i64 c', .int .i64 s', .int .i64 m', .int .i64 o', .int .i64 k', .bool h', .bool d'] 23 (by simp))
  have HB81 : Hid (Below w.heap.size w (u5.alloc (.cells #[.int .i64 c', .int .i64 s', .int .i64 m', .int .i64 o', .int .i64 k', .bool h', .bool d'] 23))) := HB71.out.alloc HB71.out.size _
  clear HB71
  have KP_82 := Lib.hid (KP_72.out.alloc (.cells #[.int .i64 x', .int .i64 y', .int .i64 z'] 25))
  clear KP_72
  have KQ_83 := Lib.hid (KQ_73.out.alloc (.cells #[.int .i64 x', .int .i64 y', .int .i64 z'] 25))
  clear KQ_73
  have KA_84 := Lib.hid (KA_74.out.alloc (.cells #[.int .i64 x', .int .i64 y', .int .i64 z'] 25))
  clear KA_74
  have KB_85 := Lib.hid (KB_75.out.alloc (.cells #[.int .i64 x', .int .i64 y', .int .i64 z'] 25))
  clear KB_75
  have KC_86 := Lib.hid (KC_76.out.alloc (.cells #[.int .i64 x', .int .i64 y', .int .i64 z'] 25))
  clear KC_76
  have KD_87 := Lib.hid (KD_77.out.alloc (.cells #[.int .i64 x', .int .i64 y', .int .i64 z'] 25))
  clear KD_77
  have KE_88 := Lib.hid (KE_78.out.alloc (.cells #[.int .i64 x', .int .i64 y', .int .i64 z'] 25))
  clear KE_78
  have KF_89 := Lib.hid (KF_79.out.alloc (.cells #[.int .i64 x', .int .i64 y', .int .i64 z'] 25))
  clear KF_79
  have KG_90 := Lib.hid (KG_80.out.alloc (.cells #[.int .i64 x', .int .i64 y', .int .i64 z'] 25))
  clear KG_80
  have KI_91 := Lib.hid (Cs.new (u5.alloc (.cells #[.int .i64 c', .int .i64 s', .int .i64 m', .int .i64 o', .int .i64 k', .bool h', .bool d'] 23)) (u5.heap.size + 1) #[.int .i64 x', .int .i64 y', .int .i64 z'] 25 (by simp))
  have HB92 : Hid (Below w.heap.size w ((u5.alloc (.cells #[.int .i64 c', .int .i64 s', .int .i64 m', .int .i64 o', .int .i64 k', .bool h', .bool d'] 23)).alloc (.cells #[.int .i64 x', .int .i64 y', .int .i64 z'] 25))) := HB81.out.alloc HB81.out.size _
  clear HB81
  clear KP_82
  clear KQ_83
  have xA0 : ((u5.alloc (.cells #[.int .i64 c', .int .i64 s', .int .i64 m', .int .i64 o', .int .i64 k', .bool h', .bool d'] 23)).alloc (.cells #[.int .i64 x', .int .i64 y', .int .i64 z'] 25)).cell? ⟨u2.heap.size, 0, none⟩ = some (.int .i64 a) := KA_84.out.c 0 rfl
  have xA1 : ((u5.alloc (.cells #[.int .i64 c', .int .i64 s', .int .i64 m', .int .i64 o', .int .i64 k', .bool h', .bool d'] 23)).alloc (.cells #[.int .i64 x', .int .i64 y', .int .i64 z'] 25)).cell? ⟨u2.heap.size, 1, none⟩ = some (.int .i64 b) := KA_84.out.c 1 rfl
  have xA2 : ((u5.alloc (.cells #[.int .i64 c', .int .i64 s', .int .i64 m', .int .i64 o', .int .i64 k', .bool h', .bool d'] 23)).alloc (.cells #[.int .i64 x', .int .i64 y', .int .i64 z'] 25)).cell? ⟨u2.heap.size, 2, none⟩ = some (.int .i64 q) := KA_84.out.c 2 rfl
  have xA3 : ((u5.alloc (.cells #[.int .i64 c', .int .i64 s', .int .i64 m', .int .i64 o', .int .i64 k', .bool h', .bool d'] 23)).alloc (.cells #[.int .i64 x', .int .i64 y', .int .i64 z'] 25)).cell? ⟨u2.heap.size, 3, none⟩ = some (.int .i64 0) := KA_84.out.c 3 rfl
  have xA4 : ((u5.alloc (.cells #[.int .i64 c', .int .i64 s', .int .i64 m', .int .i64 o', .int .i64 k', .bool h', .bool d'] 23)).alloc (.cells #[.int .i64 x', .int .i64 y', .int .i64 z'] 25)).cell? ⟨u2.heap.size, 4, none⟩ = some (.int .i64 0) := KA_84.out.c 4 rfl
  have xA5 : ((u5.alloc (.cells #[.int .i64 c', .int .i64 s', .int .i64 m', .int .i64 o', .int .i64 k', .bool h', .bool d'] 23)).alloc (.cells #[.int .i64 x', .int .i64 y', .int .i64 z'] 25)).cell? ⟨u2.heap.size, 5, none⟩ = some (.bool false) := KA_84.out.c 5 rfl
  have xA6 : ((u5.alloc (.cells #[.int .i64 c', .int .i64 s', .int .i64 m', .int .i64 o', .int .i64 k', .bool h', .bool d'] 23)).alloc (.cells #[.int .i64 x', .int .i64 y', .int .i64 z'] 25)).cell? ⟨u2.heap.size, 6, none⟩ = some (.bool false) := KA_84.out.c 6 rfl
  have zA : u2.heap.size < ((u5.alloc (.cells #[.int .i64 c', .int .i64 s', .int .i64 m', .int .i64 o', .int .i64 k', .bool h', .bool d'] 23)).alloc (.cells #[.int .i64 x', .int .i64 y', .int .i64 z'] 25)).heap.size := KA_84.out.2.2
  have z2A : u2.heap.size < ((u5.alloc (.cells #[.int .i64 c', .int .i64 s', .int .i64 m', .int .i64 o', .int .i64 k', .bool h', .bool d'] 23)).alloc (.cells #[.int .i64 x', .int .i64 y', .int .i64 z'] 25)).heap.size + 1 := by omega
  have xB0 : ((u5.alloc (.cells #[.int .i64 c', .int .i64 s', .int .i64 m', .int .i64 o', .int .i64 k', .bool h', .bool d'] 23)).alloc (.cells #[.int .i64 x', .int .i64 y', .int .i64 z'] 25)).cell? ⟨u2.heap.size + 1, 0, none⟩ = some (.int .i64 1) := KB_85.out.c 0 rfl
  have xB1 : ((u5.alloc (.cells #[.int .i64 c', .int .i64 s', .int .i64 m', .int .i64 o', .int .i64 k', .bool h', .bool d'] 23)).alloc (.cells #[.int .i64 x', .int .i64 y', .int .i64 z'] 25)).cell? ⟨u2.heap.size + 1, 1, none⟩ = some (.int .i64 q) := KB_85.out.c 1 rfl
  have xB2 : ((u5.alloc (.cells #[.int .i64 c', .int .i64 s', .int .i64 m', .int .i64 o', .int .i64 k', .bool h', .bool d'] 23)).alloc (.cells #[.int .i64 x', .int .i64 y', .int .i64 z'] 25)).cell? ⟨u2.heap.size + 1, 2, none⟩ = some (.int .i64 0) := KB_85.out.c 2 rfl
  have zB : u2.heap.size + 1 < ((u5.alloc (.cells #[.int .i64 c', .int .i64 s', .int .i64 m', .int .i64 o', .int .i64 k', .bool h', .bool d'] 23)).alloc (.cells #[.int .i64 x', .int .i64 y', .int .i64 z'] 25)).heap.size := KB_85.out.2.2
  have z2B : u2.heap.size + 1 < ((u5.alloc (.cells #[.int .i64 c', .int .i64 s', .int .i64 m', .int .i64 o', .int .i64 k', .bool h', .bool d'] 23)).alloc (.cells #[.int .i64 x', .int .i64 y', .int .i64 z'] 25)).heap.size + 1 := by omega
  have xC0 : ((u5.alloc (.cells #[.int .i64 c', .int .i64 s', .int .i64 m', .int .i64 o', .int .i64 k', .bool h', .bool d'] 23)).alloc (.cells #[.int .i64 x', .int .i64 y', .int .i64 z'] 25)).cell? ⟨u3.heap.size, 0, none⟩ = some (.int .i64 a) := KC_86.out.c 0 rfl
  have xC1 : ((u5.alloc (.cells #[.int .i64 c', .int .i64 s', .int .i64 m', .int .i64 o', .int .i64 k', .bool h', .bool d'] 23)).alloc (.cells #[.int .i64 x', .int .i64 y', .int .i64 z'] 25)).cell? ⟨u3.heap.size, 1, none⟩ = some (.int .i64 b) := KC_86.out.c 1 rfl
  have xC2 : ((u5.alloc (.cells #[.int .i64 c', .int .i64 s', .int .i64 m', .int .i64 o', .int .i64 k', .bool h', .bool d'] 23)).alloc (.cells #[.int .i64 x', .int .i64 y', .int .i64 z'] 25)).cell? ⟨u3.heap.size, 2, none⟩ = some (.int .i64 q) := KC_86.out.c 2 rfl
  have xC3 : ((u5.alloc (.cells #[.int .i64 c', .int .i64 s', .int .i64 m', .int .i64 o', .int .i64 k', .bool h', .bool d'] 23)).alloc (.cells #[.int .i64 x', .int .i64 y', .int .i64 z'] 25)).cell? ⟨u3.heap.size, 3, none⟩ = some (.int .i64 0) := KC_86.out.c 3 rfl
  have xC4 : ((u5.alloc (.cells #[.int .i64 c', .int .i64 s', .int .i64 m', .int .i64 o', .int .i64 k', .bool h', .bool d'] 23)).alloc (.cells #[.int .i64 x', .int .i64 y', .int .i64 z'] 25)).cell? ⟨u3.heap.size, 4, none⟩ = some (.int .i64 0) := KC_86.out.c 4 rfl
  have xC5 : ((u5.alloc (.cells #[.int .i64 c', .int .i64 s', .int .i64 m', .int .i64 o', .int .i64 k', .bool h', .bool d'] 23)).alloc (.cells #[.int .i64 x', .int .i64 y', .int .i64 z'] 25)).cell? ⟨u3.heap.size, 5, none⟩ = some (.bool false) := KC_86.out.c 5 rfl
  have xC6 : ((u5.alloc (.cells #[.int .i64 c', .int .i64 s', .int .i64 m', .int .i64 o', .int .i64 k', .bool h', .bool d'] 23)).alloc (.cells #[.int .i64 x', .int .i64 y', .int .i64 z'] 25)).cell? ⟨u3.heap.size, 6, none⟩ = some (.bool false) := KC_86.out.c 6 rfl
  have zC : u3.heap.size < ((u5.alloc (.cells #[.int .i64 c', .int .i64 s', .int .i64 m', .int .i64 o', .int .i64 k', .bool h', .bool d'] 23)).alloc (.cells #[.int .i64 x', .int .i64 y', .int .i64 z'] 25)).heap.size := KC_86.out.2.2
  have z2C : u3.heap.size < ((u5.alloc (.cells #[.int .i64 c', .int .i64 s', .int .i64 m', .int .i64 o', .int .i64 k', .bool h', .bool d'] 23)).alloc (.cells #[.int .i64 x', .int .i64 y', .int .i64 z'] 25)).heap.size + 1 := by omega
  have xD0 : ((u5.alloc (.cells #[.int .i64 c', .int .i64 s', .int .i64 m', .int .i64 o', .int .i64 k', .bool h', .bool d'] 23)).alloc (.cells #[.int .i64 x', .int .i64 y', .int .i64 z'] 25)).cell? ⟨u3.heap.size + 1, 0, none⟩ = some (.int .i64 1) := KD_87.out.c 0 rfl
  have xD1 : ((u5.alloc (.cells #[.int .i64 c', .int .i64 s', .int .i64 m', .int .i64 o', .int .i64 k', .bool h', .bool d'] 23)).alloc (.cells #[.int .i64 x', .int .i64 y', .int .i64 z'] 25)).cell? ⟨u3.heap.size + 1, 1, none⟩ = some (.int .i64 q) := KD_87.out.c 1 rfl
  have xD2 : ((u5.alloc (.cells #[.int .i64 c', .int .i64 s', .int .i64 m', .int .i64 o', .int .i64 k', .bool h', .bool d'] 23)).alloc (.cells #[.int .i64 x', .int .i64 y', .int .i64 z'] 25)).cell? ⟨u3.heap.size + 1, 2, none⟩ = some (.int .i64 0) := KD_87.out.c 2 rfl
  have zD : u3.heap.size + 1 < ((u5.alloc (.cells #[.int .i64 c', .int .i64 s', .int .i64 m', .int .i64 o', .int .i64 k', .bool h', .bool d'] 23)).alloc (.cells #[.int .i64 x', .int .i64 y', .int .i64 z'] 25)).heap.size := KD_87.out.2.2
  have z2D : u3.heap.size + 1 < ((u5.alloc (.cells #[.int .i64 c', .int .i64 s', .int .i64 m', .int .i64 o', .int .i64 k', .bool h', .bool d'] 23)).alloc (.cells #[.int .i64 x', .int .i64 y', .int .i64 z'] 25)).heap.size + 1 := by omega
  go_wp2_with fail
  refine (hub_is a b q _ hq.out).mono ?_
  rintro e u6 ⟨rfl, b6⟩
  clear xA0 xA1 xA2 xA3 xA4 xA5 xA6 zA z2A xB0 xB1 xB2 zB z2B xC0 xC1 xC2 xC3 xC4 xC5 xC6 zC z2C xD0 xD1 xD2 zD z2D
  have KA_93 := Lib.hid (KA_84.out.step b6)
  clear KA_84
  have KB_94 := Lib.hid (KB_85.out.step b6)
  clear KB_85
  have KC_95 := Lib.hid (KC_86.out.step b6)
  clear KC_86
  have KD_96 := Lib.hid (KD_87.out.step b6)
  clear KD_87
  have KE_97 := Lib.hid (KE_88.out.step b6)
  clear KE_88
  have KF_98 := Lib.hid (KF_89.out.step b6)
  clear KF_89
  have KG_99 := Lib.hid (KG_90.out.step b6)
  clear KG_90
  have KI_100 := Lib.hid (KI_91.out.step b6)
  clear KI_91
  have HB101 := Lib.hid (keep2 b6 HB92.out)
  clear HB92 b6
  clear KA_93
  clear KB_94
  clear KC_95
  clear KD_96
  go_wp2_with fail
  refine (rhub_is a b q _ hq.out).mono ?_
  rintro e u7 ⟨rfl, b7⟩
  have KE_102 := Lib.hid (KE_97.out.step b7)
  clear KE_97
  have KF_103 := Lib.hid (KF_98.out.step b7)
  clear KF_98
  have KG_104 := Lib.hid (KG_99.out.step b7)
  clear KG_99
  have KI_105 := Lib.hid (KI_100.out.step b7)
  clear KI_100
  have HB106 := Lib.hid (keep2 b7 HB101.out)
  clear HB101 b7
  have xE0 : u7.cell? ⟨u4.heap.size, 0, none⟩ = some (.int .i64 c') := KE_102.out.c 0 rfl
  have xE1 : u7.cell? ⟨u4.heap.size, 1, none⟩ = some (.int .i64 s') := KE_102.out.c 1 rfl
  have xE2 : u7.cell? ⟨u4.heap.size, 2, none⟩ = some (.int .i64 m') := KE_102.out.c 2 rfl
  have xE3 : u7.cell? ⟨u4.heap.size, 3, none⟩ = some (.int .i64 o') := KE_102.out.c 3 rfl
  have xE4 : u7.cell? ⟨u4.heap.size, 4, none⟩ = some (.int .i64 k') := KE_102.out.c 4 rfl
  have xE5 : u7.cell? ⟨u4.heap.size, 5, none⟩ = some (.bool h') := KE_102.out.c 5 rfl
  have xE6 : u7.cell? ⟨u4.heap.size, 6, none⟩ = some (.bool d') := KE_102.out.c 6 rfl
  have zE : u4.heap.size < u7.heap.size := KE_102.out.2.2
  have z2E : u4.heap.size < u7.heap.size + 1 := by omega
  have xF0 : u7.cell? ⟨u4.heap.size + 1, 0, none⟩ = some (.int .i64 x') := KF_103.out.c 0 rfl
  have xF1 : u7.cell? ⟨u4.heap.size + 1, 1, none⟩ = some (.int .i64 y') := KF_103.out.c 1 rfl
  have xF2 : u7.cell? ⟨u4.heap.size + 1, 2, none⟩ = some (.int .i64 z') := KF_103.out.c 2 rfl
  have zF : u4.heap.size + 1 < u7.heap.size := KF_103.out.2.2
  have z2F : u4.heap.size + 1 < u7.heap.size + 1 := by omega
  have xG0 : u7.cell? ⟨u5.heap.size, 0, none⟩ = some (.int .i64 c') := KG_104.out.c 0 rfl
  have xG1 : u7.cell? ⟨u5.heap.size, 1, none⟩ = some (.int .i64 s') := KG_104.out.c 1 rfl
  have xG2 : u7.cell? ⟨u5.heap.size, 2, none⟩ = some (.int .i64 m') := KG_104.out.c 2 rfl
  have xG3 : u7.cell? ⟨u5.heap.size, 3, none⟩ = some (.int .i64 o') := KG_104.out.c 3 rfl
  have xG4 : u7.cell? ⟨u5.heap.size, 4, none⟩ = some (.int .i64 k') := KG_104.out.c 4 rfl
  have xG5 : u7.cell? ⟨u5.heap.size, 5, none⟩ = some (.bool h') := KG_104.out.c 5 rfl
  have xG6 : u7.cell? ⟨u5.heap.size, 6, none⟩ = some (.bool d') := KG_104.out.c 6 rfl
  have zG : u5.heap.size < u7.heap.size := KG_104.out.2.2
  have z2G : u5.heap.size < u7.heap.size + 1 := by omega
  have xI0 : u7.cell? ⟨u5.heap.size + 1, 0, none⟩ = some (.int .i64 x') := KI_105.out.c 0 rfl
  have xI1 : u7.cell? ⟨u5.heap.size + 1, 1, none⟩ = some (.int .i64 y') := KI_105.out.c 1 rfl
  have xI2 : u7.cell? ⟨u5.heap.size + 1, 2, none⟩ = some (.int .i64 z') := KI_105.out.c 2 rfl
  have zI : u5.heap.size + 1 < u7.heap.size := KI_105.out.2.2
  have z2I : u5.heap.size + 1 < u7.heap.size + 1 := by omega
  go_wp2
  go_ret
  exact ⟨rfl, HB106.out⟩
end Go.Proofs.Ytoggmladiakblaa
