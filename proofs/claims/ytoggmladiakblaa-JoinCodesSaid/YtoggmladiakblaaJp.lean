/- The walk of JoinSides. -/
import Derived.Test.YtoggmladiakblaaJo
namespace Go.Proofs.Ytoggmladiakblaa
open Go.RowKit

theorem vld_mine {s m o k : Int} {d : Bool} (h : vld s m o k d = true) : (m == pw 7 s) = true := by
  unfold vld at h; simp only [Bool.and_eq_true] at h; exact h.1
theorem vld_other {s m o k : Int} {d : Bool} (h : vld s m o k d = true) (ho : (o != 0) = true) : accB o = true := by
  unfold vld at h; simp only [Bool.and_eq_true, Bool.or_eq_true] at h
  rcases h.2.1 with h1 | h1
  · simp at ho h1; exact absurd h1 ho
  · exact h1
theorem vld_zero {s m o k : Int} (h : vld s m o k false = true) : k = 0 := by
  unfold vld at h; simp only [Bool.and_eq_true] at h; simpa using h.2.2
theorem acc_ne {y : Int} (h : accB y = true) : (y != 0) = true := by
  unfold accB at h; rw [decide_eq_true_iff] at h; simp; omega
theorem vld_met {s m y : Int} (h : (m == pw 7 s) = true) (hy : accB y = true) : vld s m y 0 false = true := by
  unfold vld; simp [h, hy]
theorem vld_done {s m y : Int} (h : (m == pw 7 s) = true) (hy : accB y = true) : vld s m y (pw y s) true = true := by
  unfold vld; rw [h, hy, acc_ne hy]; simp
set_option maxRecDepth 100000 in
set_option maxHeartbeats 4000000 in
theorem sides_no (c s m o k : Int) (h d : Bool) (x y z : Int) (w : World) (hv : vld s m o k d = false) : Calls Try.prog 7 #[.agg (jc c s m o k h d), .agg (hc3 x y z)] w fun e w' => e = .returned (.bool true) ∧ Below w.heap.size w w' := by
  replace hv := Lib.hid hv
  have HB0 := Lib.hid (Below.refl w.heap.size w)
  go_enter Try.func7, Try.ntmps7
  have KP_1 := Lib.hid (Cs.new w (w.heap.size) #[.int .i64 c, .int .i64 s, .int .i64 m, .int .i64 o, .int .i64 k, .bool h, .bool d] 23 (by simp))
  have HB2 : Hid (Below w.heap.size w (w.alloc (.cells #[.int .i64 c, .int .i64 s, .int .i64 m, .int .i64 o, .int .i64 k, .bool h, .bool d] 23))) := HB0.out.alloc HB0.out.size _
  clear HB0
  have KP_3 := Lib.hid (KP_1.out.alloc (.cells #[.int .i64 x, .int .i64 y, .int .i64 z] 25))
  clear KP_1
  have KQ_4 := Lib.hid (Cs.new (w.alloc (.cells #[.int .i64 c, .int .i64 s, .int .i64 m, .int .i64 o, .int .i64 k, .bool h, .bool d] 23)) (w.heap.size + 1) #[.int .i64 x, .int .i64 y, .int .i64 z] 25 (by simp))
  have HB5 : Hid (Below w.heap.size w ((w.alloc (.cells #[.int .i64 c, .int .i64 s, .int .i64 m, .int .i64 o, .int .i64 k, .bool h, .bool d] 23)).alloc (.cells #[.int .i64 x, .int .i64 y, .int .i64 z] 25))) := HB2.out.alloc HB2.out.size _
  clear HB2
  go_wp2_with fail
  refine (head_any _).mono ?_
  rintro e u1 ⟨rfl, b1⟩
  have KP_6 := Lib.hid (KP_3.out.step b1)
  clear KP_3
  have KQ_7 := Lib.hid (KQ_4.out.step b1)
  clear KQ_4
  have HB8 := Lib.hid (keep2 b1 HB5.out)
  clear HB5 b1
  have xP0 : u1.cell? ⟨w.heap.size, 0, none⟩ = some (.int .i64 c) := KP_6.out.c 0 rfl
  have xP1 : u1.cell? ⟨w.heap.size, 1, none⟩ = some (.int .i64 s) := KP_6.out.c 1 rfl
  have xP2 : u1.cell? ⟨w.heap.size, 2, none⟩ = some (.int .i64 m) := KP_6.out.c 2 rfl
  have xP3 : u1.cell? ⟨w.heap.size, 3, none⟩ = some (.int .i64 o) := KP_6.out.c 3 rfl
  have xP4 : u1.cell? ⟨w.heap.size, 4, none⟩ = some (.int .i64 k) := KP_6.out.c 4 rfl
  have xP5 : u1.cell? ⟨w.heap.size, 5, none⟩ = some (.bool h) := KP_6.out.c 5 rfl
  have xP6 : u1.cell? ⟨w.heap.size, 6, none⟩ = some (.bool d) := KP_6.out.c 6 rfl
  have zP : w.heap.size < u1.heap.size := KP_6.out.2.2
  have z2P : w.heap.size < u1.heap.size + 1 := by omega
  go_wp2_with fail
  refine (rvalid_at c s m o k h d false _ hv.out).mono ?_
  rintro e u2 ⟨rfl, b2⟩
  clear xP0 xP1 xP2 xP3 xP4 xP5 xP6 zP z2P
  have KP_9 := Lib.hid (KP_6.out.step b2)
  clear KP_6
  have KQ_10 := Lib.hid (KQ_7.out.step b2)
  clear KQ_7
  have HB11 := Lib.hid (keep2 b2 HB8.out)
  clear HB8 b2
  go_wp2
  go_ret
  exact ⟨rfl, HB11.out⟩
set_option maxRecDepth 100000 in
set_option maxHeartbeats 4000000 in
theorem sides_28_true (c s m o k : Int) (h : Bool) (x y z : Int) (w : World) (hv : vld s m o k true = true) (hw : RW c s m o k h true x y z 28 zj zh) : Calls Try.prog 7 #[.agg (jc c s m o k h true), .agg (hc3 x y z)] w fun e w' => e = .returned (.bool true) ∧ Below w.heap.size w w' := by
  replace hv := Lib.hid hv
  replace hw := Lib.hid hw
  have HB0 := Lib.hid (Below.refl w.heap.size w)
  go_enter Try.func7, Try.ntmps7
  have KP_1 := Lib.hid (Cs.new w (w.heap.size) #[.int .i64 c, .int .i64 s, .int .i64 m, .int .i64 o, .int .i64 k, .bool h, .bool true] 23 (by simp))
  have HB2 : Hid (Below w.heap.size w (w.alloc (.cells #[.int .i64 c, .int .i64 s, .int .i64 m, .int .i64 o, .int .i64 k, .bool h, .bool true] 23))) := HB0.out.alloc HB0.out.size _
  clear HB0
  have KP_3 := Lib.hid (KP_1.out.alloc (.cells #[.int .i64 x, .int .i64 y, .int .i64 z] 25))
  clear KP_1
  have KQ_4 := Lib.hid (Cs.new (w.alloc (.cells #[.int .i64 c, .int .i64 s, .int .i64 m, .int .i64 o, .int .i64 k, .bool h, .bool true] 23)) (w.heap.size + 1) #[.int .i64 x, .int .i64 y, .int .i64 z] 25 (by simp))
  have HB5 : Hid (Below w.heap.size w ((w.alloc (.cells #[.int .i64 c, .int .i64 s, .int .i64 m, .int .i64 o, .int .i64 k, .bool h, .bool true] 23)).alloc (.cells #[.int .i64 x, .int .i64 y, .int .i64 z] 25))) := HB2.out.alloc HB2.out.size _
  clear HB2
  go_wp2_with fail
  refine (head_any _).mono ?_
  rintro e u1 ⟨rfl, b1⟩
  have KP_6 := Lib.hid (KP_3.out.step b1)
  clear KP_3
  have KQ_7 := Lib.hid (KQ_4.out.step b1)
  clear KQ_4
  have HB8 := Lib.hid (keep2 b1 HB5.out)
  clear HB5 b1
  have xP0 : u1.cell? ⟨w.heap.size, 0, none⟩ = some (.int .i64 c) := KP_6.out.c 0 rfl
  have xP1 : u1.cell? ⟨w.heap.size, 1, none⟩ = some (.int .i64 s) := KP_6.out.c 1 rfl
  have xP2 : u1.cell? ⟨w.heap.size, 2, none⟩ = some (.int .i64 m) := KP_6.out.c 2 rfl
  have xP3 : u1.cell? ⟨w.heap.size, 3, none⟩ = some (.int .i64 o) := KP_6.out.c 3 rfl
  have xP4 : u1.cell? ⟨w.heap.size, 4, none⟩ = some (.int .i64 k) := KP_6.out.c 4 rfl
  have xP5 : u1.cell? ⟨w.heap.size, 5, none⟩ = some (.bool h) := KP_6.out.c 5 rfl
  have xP6 : u1.cell? ⟨w.heap.size, 6, none⟩ = some (.bool true) := KP_6.out.c 6 rfl
  have zP : w.heap.size < u1.heap.size := KP_6.out.2.2
  have z2P : w.heap.size < u1.heap.size + 1 := by omega
  go_wp2_with fail
  refine (rvalid_at c s m o k h true true _ hv.out).mono ?_
  rintro e u2 ⟨rfl, b2⟩
  clear xP0 xP1 xP2 xP3 xP4 xP5 xP6 zP z2P
  have KP_9 := Lib.hid (KP_6.out.step b2)
  clear KP_6
  have KQ_10 := Lib.hid (KQ_7.out.step b2)
  clear KQ_7
  have HB11 := Lib.hid (keep2 b2 HB8.out)
  clear HB8 b2
  have xP0 : u2.cell? ⟨w.heap.size, 0, none⟩ = some (.int .i64 c) := KP_9.out.c 0 rfl
  have xP1 : u2.cell? ⟨w.heap.size, 1, none⟩ = some (.int .i64 s) := KP_9.out.c 1 rfl
  have xP2 : u2.cell? ⟨w.heap.size, 2, none⟩ = some (.int .i64 m) := KP_9.out.c 2 rfl
  have xP3 : u2.cell? ⟨w.heap.size, 3, none⟩ = some (.int .i64 o) := KP_9.out.c 3 rfl
  have xP4 : u2.cell? ⟨w.heap.size, 4, none⟩ = some (.int .i64 k) := KP_9.out.c 4 rfl
  have xP5 : u2.cell? ⟨w.heap.size, 5, none⟩ = some (.bool h) := KP_9.out.c 5 rfl
  have xP6 : u2.cell? ⟨w.heap.size, 6, none⟩ = some (.bool true) := KP_9.out.c 6 rfl
  have zP : w.heap.size < u2.heap.size := KP_9.out.2.2
  have z2P : w.heap.size < u2.heap.size + 1 := by omega
  have xQ0 : u2.cell? ⟨w.heap.size + 1, 0, none⟩ = some (.int .i64 x) := KQ_10.out.c 0 rfl
  have xQ1 : u2.cell? ⟨w.heap.size + 1, 1, none⟩ = some (.int .i64 y) := KQ_10.out.c 1 rfl
  have xQ2 : u2.cell? ⟨w.heap.size + 1, 2, none⟩ = some (.int .i64 z) := KQ_10.out.c 2 rfl
  have zQ : w.heap.size + 1 < u2.heap.size := KQ_10.out.2.2
  have z2Q : w.heap.size + 1 < u2.heap.size + 1 := by omega
  go_wp2_with fail
  refine (recv_is c s m o k h true x y z 28 _ _ _ hw.out).mono ?_
  rintro e u3 ⟨rfl, b3⟩
  clear xP0 xP1 xP2 xP3 xP4 xP5 xP6 zP z2P xQ0 xQ1 xQ2 zQ z2Q
  have KP_12 := Lib.hid (KP_9.out.step b3)
  clear KP_9
  have KQ_13 := Lib.hid (KQ_10.out.step b3)
  clear KQ_10
  have HB14 := Lib.hid (keep2 b3 HB11.out)
  clear HB11 b3
  have KP_15 := Lib.hid (KP_12.out.alloc (.cells #[.int .i64 0, .int .i64 0, .int .i64 0, .int .i64 0, .int .i64 0, .bool false, .bool false] 23))
  clear KP_12
  have KQ_16 := Lib.hid (KQ_13.out.alloc (.cells #[.int .i64 0, .int .i64 0, .int .i64 0, .int .i64 0, .int .i64 0, .bool false, .bool false] 23))
  clear KQ_13
  have KE_17 := Lib.hid (Cs.new u3 (u3.heap.size) #[.int .i64 0, .int .i64 0, .int .i64 0, .int .i64 0, .int .i64 0, .bool false, .bool false] 23 (by simp))
  have HB18 : Hid (Below w.heap.size w (u3.alloc (.cells #[.int .i64 0, .int .i64 0, .int .i64 0, .int .i64 0, .int .i64 0, .bool false, .bool false] 23))) := HB14.out.alloc HB14.out.size _
  clear HB14
  have KP_19 := Lib.hid (KP_15.out.alloc (.cells #[.int .i64 0, .int .i64 0, .int .i64 0] 25))
  clear KP_15
  have KQ_20 := Lib.hid (KQ_16.out.alloc (.cells #[.int .i64 0, .int .i64 0, .int .i64 0] 25))
  clear KQ_16
  have KE_21 := Lib.hid (KE_17.out.alloc (.cells #[.int .i64 0, .int .i64 0, .int .i64 0] 25))
  clear KE_17
  have KF_22 := Lib.hid (Cs.new (u3.alloc (.cells #[.int .i64 0, .int .i64 0, .int .i64 0, .int .i64 0, .int .i64 0, .bool false, .bool false] 23)) (u3.heap.size + 1) #[.int .i64 0, .int .i64 0, .int .i64 0] 25 (by simp))
  have HB23 : Hid (Below w.heap.size w ((u3.alloc (.cells #[.int .i64 0, .int .i64 0, .int .i64 0, .int .i64 0, .int .i64 0, .bool false, .bool false] 23)).alloc (.cells #[.int .i64 0, .int .i64 0, .int .i64 0] 25))) := HB18.out.alloc HB18.out.size _
  clear HB18
  have xP0 : ((u3.alloc (.cells #[.int .i64 0, .int .i64 0, .int .i64 0, .int .i64 0, .int .i64 0, .bool false, .bool false] 23)).alloc (.cells #[.int .i64 0, .int .i64 0, .int .i64 0] 25)).cell? ⟨w.heap.size, 0, none⟩ = some (.int .i64 c) := KP_19.out.c 0 rfl
  have xP1 : ((u3.alloc (.cells #[.int .i64 0, .int .i64 0, .int .i64 0, .int .i64 0, .int .i64 0, .bool false, .bool false] 23)).alloc (.cells #[.int .i64 0, .int .i64 0, .int .i64 0] 25)).cell? ⟨w.heap.size, 1, none⟩ = some (.int .i64 s) := KP_19.out.c 1 rfl
  have xP2 : ((u3.alloc (.cells #[.int .i64 0, .int .i64 0, .int .i64 0, .int .i64 0, .int .i64 0, .bool false, .bool false] 23)).alloc (.cells #[.int .i64 0, .int .i64 0, .int .i64 0] 25)).cell? ⟨w.heap.size, 2, none⟩ = some (.int .i64 m) := KP_19.out.c 2 rfl
  have xP3 : ((u3.alloc (.cells #[.int .i64 0, .int .i64 0, .int .i64 0, .int .i64 0, .int .i64 0, .bool false, .bool false] 23)).alloc (.cells #[.int .i64 0, .int .i64 0, .int .i64 0] 25)).cell? ⟨w.heap.size, 3, none⟩ = some (.int .i64 o) := KP_19.out.c 3 rfl
  have xP4 : ((u3.alloc (.cells #[.int .i64 0, .int .i64 0, .int .i64 0, .int .i64 0, .int .i64 0, .bool false, .bool false] 23)).alloc (.cells #[.int .i64 0, .int .i64 0, .int .i64 0] 25)).cell? ⟨w.heap.size, 4, none⟩ = some (.int .i64 k) := KP_19.out.c 4 rfl
  have xP5 : ((u3.alloc (.cells #[.int .i64 0, .int .i64 0, .int .i64 0, .int .i64 0, .int .i64 0, .bool false, .bool false] 23)).alloc (.cells #[.int .i64 0, .int .i64 0, .int .i64 0] 25)).cell? ⟨w.heap.size, 5, none⟩ = some (.bool h) := KP_19.out.c 5 rfl
  have xP6 : ((u3.alloc (.cells #[.int .i64 0, .int .i64 0, .int .i64 0, .int .i64 0, .int .i64 0, .bool false, .bool false] 23)).alloc (.cells #[.int .i64 0, .int .i64 0, .int .i64 0] 25)).cell? ⟨w.heap.size, 6, none⟩ = some (.bool true) := KP_19.out.c 6 rfl
  have zP : w.heap.size < ((u3.alloc (.cells #[.int .i64 0, .int .i64 0, .int .i64 0, .int .i64 0, .int .i64 0, .bool false, .bool false] 23)).alloc (.cells #[.int .i64 0, .int .i64 0, .int .i64 0] 25)).heap.size := KP_19.out.2.2
  have z2P : w.heap.size < ((u3.alloc (.cells #[.int .i64 0, .int .i64 0, .int .i64 0, .int .i64 0, .int .i64 0, .bool false, .bool false] 23)).alloc (.cells #[.int .i64 0, .int .i64 0, .int .i64 0] 25)).heap.size + 1 := by omega
  have xQ0 : ((u3.alloc (.cells #[.int .i64 0, .int .i64 0, .int .i64 0, .int .i64 0, .int .i64 0, .bool false, .bool false] 23)).alloc (.cells #[.int .i64 0, .int .i64 0, .int .i64 0] 25)).cell? ⟨w.heap.size + 1, 0, none⟩ = some (.int .i64 x) := KQ_20.out.c 0 rfl
  have xQ1 : ((u3.alloc (.cells #[.int .i64 0, .int .i64 0, .int .i64 0, .int .i64 0, .int .i64 0, .bool false, .bool false] 23)).alloc (.cells #[.int .i64 0, .int .i64 0, .int .i64 0] 25)).cell? ⟨w.heap.size + 1, 1, none⟩ = some (.int .i64 y) := KQ_20.out.c 1 rfl
  have xQ2 : ((u3.alloc (.cells #[.int .i64 0, .int .i64 0, .int .i64 0, .int .i64 0, .int .i64 0, .bool false, .bool false] 23)).alloc (.cells #[.int .i64 0, .int .i64 0, .int .i64 0] 25)).cell? ⟨w.heap.size + 1, 2, none⟩ = some (.int .i64 z) := KQ_20.out.c 2 rfl
  have zQ : w.heap.size + 1 < ((u3.alloc (.cells #[.int .i64 0, .int .i64 0, .int .i64 0, .int .i64 0, .int .i64 0, .bool false, .bool false] 23)).alloc (.cells #[.int .i64 0, .int .i64 0, .int .i64 0] 25)).heap.size := KQ_20.out.2.2
  have z2Q : w.heap.size + 1 < ((u3.alloc (.cells #[.int .i64 0, .int .i64 0, .int .i64 0, .int .i64 0, .int .i64 0, .bool false, .bool false] 23)).alloc (.cells #[.int .i64 0, .int .i64 0, .int .i64 0] 25)).heap.size + 1 := by omega
  have xE0 : ((u3.alloc (.cells #[.int .i64 0, .int .i64 0, .int .i64 0, .int .i64 0, .int .i64 0, .bool false, .bool false] 23)).alloc (.cells #[.int .i64 0, .int .i64 0, .int .i64 0] 25)).cell? ⟨u3.heap.size, 0, none⟩ = some (.int .i64 0) := KE_21.out.c 0 rfl
  have xE1 : ((u3.alloc (.cells #[.int .i64 0, .int .i64 0, .int .i64 0, .int .i64 0, .int .i64 0, .bool false, .bool false] 23)).alloc (.cells #[.int .i64 0, .int .i64 0, .int .i64 0] 25)).cell? ⟨u3.heap.size, 1, none⟩ = some (.int .i64 0) := KE_21.out.c 1 rfl
  have xE2 : ((u3.alloc (.cells #[.int .i64 0, .int .i64 0, .int .i64 0, .int .i64 0, .int .i64 0, .bool false, .bool false] 23)).alloc (.cells #[.int .i64 0, .int .i64 0, .int .i64 0] 25)).cell? ⟨u3.heap.size, 2, none⟩ = some (.int .i64 0) := KE_21.out.c 2 rfl
  have xE3 : ((u3.alloc (.cells #[.int .i64 0, .int .i64 0, .int .i64 0, .int .i64 0, .int .i64 0, .bool false, .bool false] 23)).alloc (.cells #[.int .i64 0, .int .i64 0, .int .i64 0] 25)).cell? ⟨u3.heap.size, 3, none⟩ = some (.int .i64 0) := KE_21.out.c 3 rfl
  have xE4 : ((u3.alloc (.cells #[.int .i64 0, .int .i64 0, .int .i64 0, .int .i64 0, .int .i64 0, .bool false, .bool false] 23)).alloc (.cells #[.int .i64 0, .int .i64 0, .int .i64 0] 25)).cell? ⟨u3.heap.size, 4, none⟩ = some (.int .i64 0) := KE_21.out.c 4 rfl
  have xE5 : ((u3.alloc (.cells #[.int .i64 0, .int .i64 0, .int .i64 0, .int .i64 0, .int .i64 0, .bool false, .bool false] 23)).alloc (.cells #[.int .i64 0, .int .i64 0, .int .i64 0] 25)).cell? ⟨u3.heap.size, 5, none⟩ = some (.bool false) := KE_21.out.c 5 rfl
  have xE6 : ((u3.alloc (.cells #[.int .i64 0, .int .i64 0, .int .i64 0, .int .i64 0, .int .i64 0, .bool false, .bool false] 23)).alloc (.cells #[.int .i64 0, .int .i64 0, .int .i64 0] 25)).cell? ⟨u3.heap.size, 6, none⟩ = some (.bool false) := KE_21.out.c 6 rfl
  have zE : u3.heap.size < ((u3.alloc (.cells #[.int .i64 0, .int .i64 0, .int .i64 0, .int .i64 0, .int .i64 0, .bool false, .bool false] 23)).alloc (.cells #[.int .i64 0, .int .i64 0, .int .i64 0] 25)).heap.size := KE_21.out.2.2
  have z2E : u3.heap.size < ((u3.alloc (.cells #[.int .i64 0, .int .i64 0, .int .i64 0, .int .i64 0, .int .i64 0, .bool false, .bool false] 23)).alloc (.cells #[.int .i64 0, .int .i64 0, .int .i64 0] 25)).heap.size + 1 := by omega
  have xF0 : ((u3.alloc (.cells #[.int .i64 0, .int .i64 0, .int .i64 0, .int .i64 0, .int .i64 0, .bool false, .bool false] 23)).alloc (.cells #[.int .i64 0, .int .i64 0, .int .i64 0] 25)).cell? ⟨u3.heap.size + 1, 0, none⟩ = some (.int .i64 0) := KF_22.out.c 0 rfl
  have xF1 : ((u3.alloc (.cells #[.int .i64 0, .int .i64 0, .int .i64 0, .int .i64 0, .int .i64 0, .bool false, .bool false] 23)).alloc (.cells #[.int .i64 0, .int .i64 0, .int .i64 0] 25)).cell? ⟨u3.heap.size + 1, 1, none⟩ = some (.int .i64 0) := KF_22.out.c 1 rfl
  have xF2 : ((u3.alloc (.cells #[.int .i64 0, .int .i64 0, .int .i64 0, .int .i64 0, .int .i64 0, .bool false, .bool false] 23)).alloc (.cells #[.int .i64 0, .int .i64 0, .int .i64 0] 25)).cell? ⟨u3.heap.size + 1, 2, none⟩ = some (.int .i64 0) := KF_22.out.c 2 rfl
  have zF : u3.heap.size + 1 < ((u3.alloc (.cells #[.int .i64 0, .int .i64 0, .int .i64 0, .int .i64 0, .int .i64 0, .bool false, .bool false] 23)).alloc (.cells #[.int .i64 0, .int .i64 0, .int .i64 0] 25)).heap.size := KF_22.out.2.2
  have z2F : u3.heap.size + 1 < ((u3.alloc (.cells #[.int .i64 0, .int .i64 0, .int .i64 0, .int .i64 0, .int .i64 0, .bool false, .bool false] 23)).alloc (.cells #[.int .i64 0, .int .i64 0, .int .i64 0] 25)).heap.size + 1 := by omega
  go_wp2
  go_ret
  exact ⟨rfl, HB23.out⟩
set_option maxRecDepth 100000 in
set_option maxHeartbeats 4000000 in
theorem sides_28_false (c s m o k : Int) (h : Bool) (x y z : Int) (w : World) (hv : vld s m o k false = true) (hw : RW c s m o k h false x y z 28 zj zh) : Calls Try.prog 7 #[.agg (jc c s m o k h false), .agg (hc3 x y z)] w fun e w' => e = .returned (.bool true) ∧ Below w.heap.size w w' := by
  replace hv := Lib.hid hv
  replace hw := Lib.hid hw
  have HB0 := Lib.hid (Below.refl w.heap.size w)
  go_enter Try.func7, Try.ntmps7
  have KP_1 := Lib.hid (Cs.new w (w.heap.size) #[.int .i64 c, .int .i64 s, .int .i64 m, .int .i64 o, .int .i64 k, .bool h, .bool false] 23 (by simp))
  have HB2 : Hid (Below w.heap.size w (w.alloc (.cells #[.int .i64 c, .int .i64 s, .int .i64 m, .int .i64 o, .int .i64 k, .bool h, .bool false] 23))) := HB0.out.alloc HB0.out.size _
  clear HB0
  have KP_3 := Lib.hid (KP_1.out.alloc (.cells #[.int .i64 x, .int .i64 y, .int .i64 z] 25))
  clear KP_1
  have KQ_4 := Lib.hid (Cs.new (w.alloc (.cells #[.int .i64 c, .int .i64 s, .int .i64 m, .int .i64 o, .int .i64 k, .bool h, .bool false] 23)) (w.heap.size + 1) #[.int .i64 x, .int .i64 y, .int .i64 z] 25 (by simp))
  have HB5 : Hid (Below w.heap.size w ((w.alloc (.cells #[.int .i64 c, .int .i64 s, .int .i64 m, .int .i64 o, .int .i64 k, .bool h, .bool false] 23)).alloc (.cells #[.int .i64 x, .int .i64 y, .int .i64 z] 25))) := HB2.out.alloc HB2.out.size _
  clear HB2
  go_wp2_with fail
  refine (head_any _).mono ?_
  rintro e u1 ⟨rfl, b1⟩
  have KP_6 := Lib.hid (KP_3.out.step b1)
  clear KP_3
  have KQ_7 := Lib.hid (KQ_4.out.step b1)
  clear KQ_4
  have HB8 := Lib.hid (keep2 b1 HB5.out)
  clear HB5 b1
  have xP0 : u1.cell? ⟨w.heap.size, 0, none⟩ = some (.int .i64 c) := KP_6.out.c 0 rfl
  have xP1 : u1.cell? ⟨w.heap.size, 1, none⟩ = some (.int .i64 s) := KP_6.out.c 1 rfl
  have xP2 : u1.cell? ⟨w.heap.size, 2, none⟩ = some (.int .i64 m) := KP_6.out.c 2 rfl
  have xP3 : u1.cell? ⟨w.heap.size, 3, none⟩ = some (.int .i64 o) := KP_6.out.c 3 rfl
  have xP4 : u1.cell? ⟨w.heap.size, 4, none⟩ = some (.int .i64 k) := KP_6.out.c 4 rfl
  have xP5 : u1.cell? ⟨w.heap.size, 5, none⟩ = some (.bool h) := KP_6.out.c 5 rfl
  have xP6 : u1.cell? ⟨w.heap.size, 6, none⟩ = some (.bool false) := KP_6.out.c 6 rfl
  have zP : w.heap.size < u1.heap.size := KP_6.out.2.2
  have z2P : w.heap.size < u1.heap.size + 1 := by omega
  go_wp2_with fail
  refine (rvalid_at c s m o k h false true _ hv.out).mono ?_
  rintro e u2 ⟨rfl, b2⟩
  clear xP0 xP1 xP2 xP3 xP4 xP5 xP6 zP z2P
  have KP_9 := Lib.hid (KP_6.out.step b2)
  clear KP_6
  have KQ_10 := Lib.hid (KQ_7.out.step b2)
  clear KQ_7
  have HB11 := Lib.hid (keep2 b2 HB8.out)
  clear HB8 b2
  have xP0 : u2.cell? ⟨w.heap.size, 0, none⟩ = some (.int .i64 c) := KP_9.out.c 0 rfl
  have xP1 : u2.cell? ⟨w.heap.size, 1, none⟩ = some (.int .i64 s) := KP_9.out.c 1 rfl
  have xP2 : u2.cell? ⟨w.heap.size, 2, none⟩ = some (.int .i64 m) := KP_9.out.c 2 rfl
  have xP3 : u2.cell? ⟨w.heap.size, 3, none⟩ = some (.int .i64 o) := KP_9.out.c 3 rfl
  have xP4 : u2.cell? ⟨w.heap.size, 4, none⟩ = some (.int .i64 k) := KP_9.out.c 4 rfl
  have xP5 : u2.cell? ⟨w.heap.size, 5, none⟩ = some (.bool h) := KP_9.out.c 5 rfl
  have xP6 : u2.cell? ⟨w.heap.size, 6, none⟩ = some (.bool false) := KP_9.out.c 6 rfl
  have zP : w.heap.size < u2.heap.size := KP_9.out.2.2
  have z2P : w.heap.size < u2.heap.size + 1 := by omega
  have xQ0 : u2.cell? ⟨w.heap.size + 1, 0, none⟩ = some (.int .i64 x) := KQ_10.out.c 0 rfl
  have xQ1 : u2.cell? ⟨w.heap.size + 1, 1, none⟩ = some (.int .i64 y) := KQ_10.out.c 1 rfl
  have xQ2 : u2.cell? ⟨w.heap.size + 1, 2, none⟩ = some (.int .i64 z) := KQ_10.out.c 2 rfl
  have zQ : w.heap.size + 1 < u2.heap.size := KQ_10.out.2.2
  have z2Q : w.heap.size + 1 < u2.heap.size + 1 := by omega
  go_wp2_with fail
  refine (recv_is c s m o k h false x y z 28 _ _ _ hw.out).mono ?_
  rintro e u3 ⟨rfl, b3⟩
  clear xP0 xP1 xP2 xP3 xP4 xP5 xP6 zP z2P xQ0 xQ1 xQ2 zQ z2Q
  have KP_12 := Lib.hid (KP_9.out.step b3)
  clear KP_9
  have KQ_13 := Lib.hid (KQ_10.out.step b3)
  clear KQ_10
  have HB14 := Lib.hid (keep2 b3 HB11.out)
  clear HB11 b3
  have KP_15 := Lib.hid (KP_12.out.alloc (.cells #[.int .i64 0, .int .i64 0, .int .i64 0, .int .i64 0, .int .i64 0, .bool false, .bool false] 23))
  clear KP_12
  have KQ_16 := Lib.hid (KQ_13.out.alloc (.cells #[.int .i64 0, .int .i64 0, .int .i64 0, .int .i64 0, .int .i64 0, .bool false, .bool false] 23))
  clear KQ_13
  have KE_17 := Lib.hid (Cs.new u3 (u3.heap.size) #[.int .i64 0, .int .i64 0, .int .i64 0, .int .i64 0, .int .i64 0, .bool false, .bool false] 23 (by simp))
  have HB18 : Hid (Below w.heap.size w (u3.alloc (.cells #[.int .i64 0, .int .i64 0, .int .i64 0, .int .i64 0, .int .i64 0, .bool false, .bool false] 23))) := HB14.out.alloc HB14.out.size _
  clear HB14
  have KP_19 := Lib.hid (KP_15.out.alloc (.cells #[.int .i64 0, .int .i64 0, .int .i64 0] 25))
  clear KP_15
  have KQ_20 := Lib.hid (KQ_16.out.alloc (.cells #[.int .i64 0, .int .i64 0, .int .i64 0] 25))
  clear KQ_16
  have KE_21 := Lib.hid (KE_17.out.alloc (.cells #[.int .i64 0, .int .i64 0, .int .i64 0] 25))
  clear KE_17
  have KF_22 := Lib.hid (Cs.new (u3.alloc (.cells #[.int .i64 0, .int .i64 0, .int .i64 0, .int .i64 0, .int .i64 0, .bool false, .bool false] 23)) (u3.heap.size + 1) #[.int .i64 0, .int .i64 0, .int .i64 0] 25 (by simp))
  have HB23 : Hid (Below w.heap.size w ((u3.alloc (.cells #[.int .i64 0, .int .i64 0, .int .i64 0, .int .i64 0, .int .i64 0, .bool false, .bool false] 23)).alloc (.cells #[.int .i64 0, .int .i64 0, .int .i64 0] 25))) := HB18.out.alloc HB18.out.size _
  clear HB18
  have xP0 : ((u3.alloc (.cells #[.int .i64 0, .int .i64 0, .int .i64 0, .int .i64 0, .int .i64 0, .bool false, .bool false] 23)).alloc (.cells #[.int .i64 0, .int .i64 0, .int .i64 0] 25)).cell? ⟨w.heap.size, 0, none⟩ = some (.int .i64 c) := KP_19.out.c 0 rfl
  have xP1 : ((u3.alloc (.cells #[.int .i64 0, .int .i64 0, .int .i64 0, .int .i64 0, .int .i64 0, .bool false, .bool false] 23)).alloc (.cells #[.int .i64 0, .int .i64 0, .int .i64 0] 25)).cell? ⟨w.heap.size, 1, none⟩ = some (.int .i64 s) := KP_19.out.c 1 rfl
  have xP2 : ((u3.alloc (.cells #[.int .i64 0, .int .i64 0, .int .i64 0, .int .i64 0, .int .i64 0, .bool false, .bool false] 23)).alloc (.cells #[.int .i64 0, .int .i64 0, .int .i64 0] 25)).cell? ⟨w.heap.size, 2, none⟩ = some (.int .i64 m) := KP_19.out.c 2 rfl
  have xP3 : ((u3.alloc (.cells #[.int .i64 0, .int .i64 0, .int .i64 0, .int .i64 0, .int .i64 0, .bool false, .bool false] 23)).alloc (.cells #[.int .i64 0, .int .i64 0, .int .i64 0] 25)).cell? ⟨w.heap.size, 3, none⟩ = some (.int .i64 o) := KP_19.out.c 3 rfl
  have xP4 : ((u3.alloc (.cells #[.int .i64 0, .int .i64 0, .int .i64 0, .int .i64 0, .int .i64 0, .bool false, .bool false] 23)).alloc (.cells #[.int .i64 0, .int .i64 0, .int .i64 0] 25)).cell? ⟨w.heap.size, 4, none⟩ = some (.int .i64 k) := KP_19.out.c 4 rfl
  have xP5 : ((u3.alloc (.cells #[.int .i64 0, .int .i64 0, .int .i64 0, .int .i64 0, .int .i64 0, .bool false, .bool false] 23)).alloc (.cells #[.int .i64 0, .int .i64 0, .int .i64 0] 25)).cell? ⟨w.heap.size, 5, none⟩ = some (.bool h) := KP_19.out.c 5 rfl
  have xP6 : ((u3.alloc (.cells #[.int .i64 0, .int .i64 0, .int .i64 0, .int .i64 0, .int .i64 0, .bool false, .bool false] 23)).alloc (.cells #[.int .i64 0, .int .i64 0, .int .i64 0] 25)).cell? ⟨w.heap.size, 6, none⟩ = some (.bool false) := KP_19.out.c 6 rfl
  have zP : w.heap.size < ((u3.alloc (.cells #[.int .i64 0, .int .i64 0, .int .i64 0, .int .i64 0, .int .i64 0, .bool false, .bool false] 23)).alloc (.cells #[.int .i64 0, .int .i64 0, .int .i64 0] 25)).heap.size := KP_19.out.2.2
  have z2P : w.heap.size < ((u3.alloc (.cells #[.int .i64 0, .int .i64 0, .int .i64 0, .int .i64 0, .int .i64 0, .bool false, .bool false] 23)).alloc (.cells #[.int .i64 0, .int .i64 0, .int .i64 0] 25)).heap.size + 1 := by omega
  have xQ0 : ((u3.alloc (.cells #[.int .i64 0, .int .i64 0, .int .i64 0, .int .i64 0, .int .i64 0, .bool false, .bool false] 23)).alloc (.cells #[.int .i64 0, .int .i64 0, .int .i64 0] 25)).cell? ⟨w.heap.size + 1, 0, none⟩ = some (.int .i64 x) := KQ_20.out.c 0 rfl
  have xQ1 : ((u3.alloc (.cells #[.int .i64 0, .int .i64 0, .int .i64 0, .int .i64 0, .int .i64 0, .bool false, .bool false] 23)).alloc (.cells #[.int .i64 0, .int .i64 0, .int .i64 0] 25)).cell? ⟨w.heap.size + 1, 1, none⟩ = some (.int .i64 y) := KQ_20.out.c 1 rfl
  have xQ2 : ((u3.alloc (.cells #[.int .i64 0, .int .i64 0, .int .i64 0, .int .i64 0, .int .i64 0, .bool false, .bool false] 23)).alloc (.cells #[.int .i64 0, .int .i64 0, .int .i64 0] 25)).cell? ⟨w.heap.size + 1, 2, none⟩ = some (.int .i64 z) := KQ_20.out.c 2 rfl
  have zQ : w.heap.size + 1 < ((u3.alloc (.cells #[.int .i64 0, .int .i64 0, .int .i64 0, .int .i64 0, .int .i64 0, .bool false, .bool false] 23)).alloc (.cells #[.int .i64 0, .int .i64 0, .int .i64 0] 25)).heap.size := KQ_20.out.2.2
  have z2Q : w.heap.size + 1 < ((u3.alloc (.cells #[.int .i64 0, .int .i64 0, .int .i64 0, .int .i64 0, .int .i64 0, .bool false, .bool false] 23)).alloc (.cells #[.int .i64 0, .int .i64 0, .int .i64 0] 25)).heap.size + 1 := by omega
  have xE0 : ((u3.alloc (.cells #[.int .i64 0, .int .i64 0, .int .i64 0, .int .i64 0, .int .i64 0, .bool false, .bool false] 23)).alloc (.cells #[.int .i64 0, .int .i64 0, .int .i64 0] 25)).cell? ⟨u3.heap.size, 0, none⟩ = some (.int .i64 0) := KE_21.out.c 0 rfl
  have xE1 : ((u3.alloc (.cells #[.int .i64 0, .int .i64 0, .int .i64 0, .int .i64 0, .int .i64 0, .bool false, .bool false] 23)).alloc (.cells #[.int .i64 0, .int .i64 0, .int .i64 0] 25)).cell? ⟨u3.heap.size, 1, none⟩ = some (.int .i64 0) := KE_21.out.c 1 rfl
  have xE2 : ((u3.alloc (.cells #[.int .i64 0, .int .i64 0, .int .i64 0, .int .i64 0, .int .i64 0, .bool false, .bool false] 23)).alloc (.cells #[.int .i64 0, .int .i64 0, .int .i64 0] 25)).cell? ⟨u3.heap.size, 2, none⟩ = some (.int .i64 0) := KE_21.out.c 2 rfl
  have xE3 : ((u3.alloc (.cells #[.int .i64 0, .int .i64 0, .int .i64 0, .int .i64 0, .int .i64 0, .bool false, .bool false] 23)).alloc (.cells #[.int .i64 0, .int .i64 0, .int .i64 0] 25)).cell? ⟨u3.heap.size, 3, none⟩ = some (.int .i64 0) := KE_21.out.c 3 rfl
  have xE4 : ((u3.alloc (.cells #[.int .i64 0, .int .i64 0, .int .i64 0, .int .i64 0, .int .i64 0, .bool false, .bool false] 23)).alloc (.cells #[.int .i64 0, .int .i64 0, .int .i64 0] 25)).cell? ⟨u3.heap.size, 4, none⟩ = some (.int .i64 0) := KE_21.out.c 4 rfl
  have xE5 : ((u3.alloc (.cells #[.int .i64 0, .int .i64 0, .int .i64 0, .int .i64 0, .int .i64 0, .bool false, .bool false] 23)).alloc (.cells #[.int .i64 0, .int .i64 0, .int .i64 0] 25)).cell? ⟨u3.heap.size, 5, none⟩ = some (.bool false) := KE_21.out.c 5 rfl
  have xE6 : ((u3.alloc (.cells #[.int .i64 0, .int .i64 0, .int .i64 0, .int .i64 0, .int .i64 0, .bool false, .bool false] 23)).alloc (.cells #[.int .i64 0, .int .i64 0, .int .i64 0] 25)).cell? ⟨u3.heap.size, 6, none⟩ = some (.bool false) := KE_21.out.c 6 rfl
  have zE : u3.heap.size < ((u3.alloc (.cells #[.int .i64 0, .int .i64 0, .int .i64 0, .int .i64 0, .int .i64 0, .bool false, .bool false] 23)).alloc (.cells #[.int .i64 0, .int .i64 0, .int .i64 0] 25)).heap.size := KE_21.out.2.2
  have z2E : u3.heap.size < ((u3.alloc (.cells #[.int .i64 0, .int .i64 0, .int .i64 0, .int .i64 0, .int .i64 0, .bool false, .bool false] 23)).alloc (.cells #[.int .i64 0, .int .i64 0, .int .i64 0] 25)).heap.size + 1 := by omega
  have xF0 : ((u3.alloc (.cells #[.int .i64 0, .int .i64 0, .int .i64 0, .int .i64 0, .int .i64 0, .bool false, .bool false] 23)).alloc (.cells #[.int .i64 0, .int .i64 0, .int .i64 0] 25)).cell? ⟨u3.heap.size + 1, 0, none⟩ = some (.int .i64 0) := KF_22.out.c 0 rfl
  have xF1 : ((u3.alloc (.cells #[.int .i64 0, .int .i64 0, .int .i64 0, .int .i64 0, .int .i64 0, .bool false, .bool false] 23)).alloc (.cells #[.int .i64 0, .int .i64 0, .int .i64 0] 25)).cell? ⟨u3.heap.size + 1, 1, none⟩ = some (.int .i64 0) := KF_22.out.c 1 rfl
  have xF2 : ((u3.alloc (.cells #[.int .i64 0, .int .i64 0, .int .i64 0, .int .i64 0, .int .i64 0, .bool false, .bool false] 23)).alloc (.cells #[.int .i64 0, .int .i64 0, .int .i64 0] 25)).cell? ⟨u3.heap.size + 1, 2, none⟩ = some (.int .i64 0) := KF_22.out.c 2 rfl
  have zF : u3.heap.size + 1 < ((u3.alloc (.cells #[.int .i64 0, .int .i64 0, .int .i64 0, .int .i64 0, .int .i64 0, .bool false, .bool false] 23)).alloc (.cells #[.int .i64 0, .int .i64 0, .int .i64 0] 25)).heap.size := KF_22.out.2.2
  have z2F : u3.heap.size + 1 < ((u3.alloc (.cells #[.int .i64 0, .int .i64 0, .int .i64 0, .int .i64 0, .int .i64 0, .bool false, .bool false] 23)).alloc (.cells #[.int .i64 0, .int .i64 0, .int .i64 0] 25)).heap.size + 1 := by omega
  go_wp2
  go_ret
  exact ⟨rfl, HB23.out⟩
set_option maxRecDepth 100000 in
set_option maxHeartbeats 4000000 in
theorem sides_1_false (c s m o k : Int) (h : Bool) (x y z : Int) (w : World) (hv : vld s m o k false = true) (hw : RW c s m o k h false x y z 1 zj zh) : Calls Try.prog 7 #[.agg (jc c s m o k h false), .agg (hc3 x y z)] w fun e w' => e = .returned (.bool true) ∧ Below w.heap.size w w' := by
  replace hv := Lib.hid hv
  replace hw := Lib.hid hw
  have HB0 := Lib.hid (Below.refl w.heap.size w)
  go_enter Try.func7, Try.ntmps7
  have KP_1 := Lib.hid (Cs.new w (w.heap.size) #[.int .i64 c, .int .i64 s, .int .i64 m, .int .i64 o, .int .i64 k, .bool h, .bool false] 23 (by simp))
  have HB2 : Hid (Below w.heap.size w (w.alloc (.cells #[.int .i64 c, .int .i64 s, .int .i64 m, .int .i64 o, .int .i64 k, .bool h, .bool false] 23))) := HB0.out.alloc HB0.out.size _
  clear HB0
  have KP_3 := Lib.hid (KP_1.out.alloc (.cells #[.int .i64 x, .int .i64 y, .int .i64 z] 25))
  clear KP_1
  have KQ_4 := Lib.hid (Cs.new (w.alloc (.cells #[.int .i64 c, .int .i64 s, .int .i64 m, .int .i64 o, .int .i64 k, .bool h, .bool false] 23)) (w.heap.size + 1) #[.int .i64 x, .int .i64 y, .int .i64 z] 25 (by simp))
  have HB5 : Hid (Below w.heap.size w ((w.alloc (.cells #[.int .i64 c, .int .i64 s, .int .i64 m, .int .i64 o, .int .i64 k, .bool h, .bool false] 23)).alloc (.cells #[.int .i64 x, .int .i64 y, .int .i64 z] 25))) := HB2.out.alloc HB2.out.size _
  clear HB2
  go_wp2_with fail
  refine (head_any _).mono ?_
  rintro e u1 ⟨rfl, b1⟩
  have KP_6 := Lib.hid (KP_3.out.step b1)
  clear KP_3
  have KQ_7 := Lib.hid (KQ_4.out.step b1)
  clear KQ_4
  have HB8 := Lib.hid (keep2 b1 HB5.out)
  clear HB5 b1
  have xP0 : u1.cell? ⟨w.heap.size, 0, none⟩ = some (.int .i64 c) := KP_6.out.c 0 rfl
  have xP1 : u1.cell? ⟨w.heap.size, 1, none⟩ = some (.int .i64 s) := KP_6.out.c 1 rfl
  have xP2 : u1.cell? ⟨w.heap.size, 2, none⟩ = some (.int .i64 m) := KP_6.out.c 2 rfl
  have xP3 : u1.cell? ⟨w.heap.size, 3, none⟩ = some (.int .i64 o) := KP_6.out.c 3 rfl
  have xP4 : u1.cell? ⟨w.heap.size, 4, none⟩ = some (.int .i64 k) := KP_6.out.c 4 rfl
  have xP5 : u1.cell? ⟨w.heap.size, 5, none⟩ = some (.bool h) := KP_6.out.c 5 rfl
  have xP6 : u1.cell? ⟨w.heap.size, 6, none⟩ = some (.bool false) := KP_6.out.c 6 rfl
  have zP : w.heap.size < u1.heap.size := KP_6.out.2.2
  have z2P : w.heap.size < u1.heap.size + 1 := by omega
  go_wp2_with fail
  refine (rvalid_at c s m o k h false true _ hv.out).mono ?_
  rintro e u2 ⟨rfl, b2⟩
  clear xP0 xP1 xP2 xP3 xP4 xP5 xP6 zP z2P
  have KP_9 := Lib.hid (KP_6.out.step b2)
  clear KP_6
  have KQ_10 := Lib.hid (KQ_7.out.step b2)
  clear KQ_7
  have HB11 := Lib.hid (keep2 b2 HB8.out)
  clear HB8 b2
  have xP0 : u2.cell? ⟨w.heap.size, 0, none⟩ = some (.int .i64 c) := KP_9.out.c 0 rfl
  have xP1 : u2.cell? ⟨w.heap.size, 1, none⟩ = some (.int .i64 s) := KP_9.out.c 1 rfl
  have xP2 : u2.cell? ⟨w.heap.size, 2, none⟩ = some (.int .i64 m) := KP_9.out.c 2 rfl
  have xP3 : u2.cell? ⟨w.heap.size, 3, none⟩ = some (.int .i64 o) := KP_9.out.c 3 rfl
  have xP4 : u2.cell? ⟨w.heap.size, 4, none⟩ = some (.int .i64 k) := KP_9.out.c 4 rfl
  have xP5 : u2.cell? ⟨w.heap.size, 5, none⟩ = some (.bool h) := KP_9.out.c 5 rfl
  have xP6 : u2.cell? ⟨w.heap.size, 6, none⟩ = some (.bool false) := KP_9.out.c 6 rfl
  have zP : w.heap.size < u2.heap.size := KP_9.out.2.2
  have z2P : w.heap.size < u2.heap.size + 1 := by omega
  have xQ0 : u2.cell? ⟨w.heap.size + 1, 0, none⟩ = some (.int .i64 x) := KQ_10.out.c 0 rfl
  have xQ1 : u2.cell? ⟨w.heap.size + 1, 1, none⟩ = some (.int .i64 y) := KQ_10.out.c 1 rfl
  have xQ2 : u2.cell? ⟨w.heap.size + 1, 2, none⟩ = some (.int .i64 z) := KQ_10.out.c 2 rfl
  have zQ : w.heap.size + 1 < u2.heap.size := KQ_10.out.2.2
  have z2Q : w.heap.size + 1 < u2.heap.size + 1 := by omega
  go_wp2_with fail
  refine (recv_is c s m o k h false x y z 1 _ _ _ hw.out).mono ?_
  rintro e u3 ⟨rfl, b3⟩
  clear xP0 xP1 xP2 xP3 xP4 xP5 xP6 zP z2P xQ0 xQ1 xQ2 zQ z2Q
  have KP_12 := Lib.hid (KP_9.out.step b3)
  clear KP_9
  have KQ_13 := Lib.hid (KQ_10.out.step b3)
  clear KQ_10
  have HB14 := Lib.hid (keep2 b3 HB11.out)
  clear HB11 b3
  have KP_15 := Lib.hid (KP_12.out.alloc (.cells #[.int .i64 0, .int .i64 0, .int .i64 0, .int .i64 0, .int .i64 0, .bool false, .bool false] 23))
  clear KP_12
  have KQ_16 := Lib.hid (KQ_13.out.alloc (.cells #[.int .i64 0, .int .i64 0, .int .i64 0, .int .i64 0, .int .i64 0, .bool false, .bool false] 23))
  clear KQ_13
  have KE_17 := Lib.hid (Cs.new u3 (u3.heap.size) #[.int .i64 0, .int .i64 0, .int .i64 0, .int .i64 0, .int .i64 0, .bool false, .bool false] 23 (by simp))
  have HB18 : Hid (Below w.heap.size w (u3.alloc (.cells #[.int .i64 0, .int .i64 0, .int .i64 0, .int .i64 0, .int .i64 0, .bool false, .bool false] 23))) := HB14.out.alloc HB14.out.size _
  clear HB14
  have KP_19 := Lib.hid (KP_15.out.alloc (.cells #[.int .i64 0, .int .i64 0, .int .i64 0] 25))
  clear KP_15
  have KQ_20 := Lib.hid (KQ_16.out.alloc (.cells #[.int .i64 0, .int .i64 0, .int .i64 0] 25))
  clear KQ_16
  have KE_21 := Lib.hid (KE_17.out.alloc (.cells #[.int .i64 0, .int .i64 0, .int .i64 0] 25))
  clear KE_17
  have KF_22 := Lib.hid (Cs.new (u3.alloc (.cells #[.int .i64 0, .int .i64 0, .int .i64 0, .int .i64 0, .int .i64 0, .bool false, .bool false] 23)) (u3.heap.size + 1) #[.int .i64 0, .int .i64 0, .int .i64 0] 25 (by simp))
  have HB23 : Hid (Below w.heap.size w ((u3.alloc (.cells #[.int .i64 0, .int .i64 0, .int .i64 0, .int .i64 0, .int .i64 0, .bool false, .bool false] 23)).alloc (.cells #[.int .i64 0, .int .i64 0, .int .i64 0] 25))) := HB18.out.alloc HB18.out.size _
  clear HB18
  have xP0 : ((u3.alloc (.cells #[.int .i64 0, .int .i64 0, .int .i64 0, .int .i64 0, .int .i64 0, .bool false, .bool false] 23)).alloc (.cells #[.int .i64 0, .int .i64 0, .int .i64 0] 25)).cell? ⟨w.heap.size, 0, none⟩ = some (.int .i64 c) := KP_19.out.c 0 rfl
  have xP1 : ((u3.alloc (.cells #[.int .i64 0, .int .i64 0, .int .i64 0, .int .i64 0, .int .i64 0, .bool false, .bool false] 23)).alloc (.cells #[.int .i64 0, .int .i64 0, .int .i64 0] 25)).cell? ⟨w.heap.size, 1, none⟩ = some (.int .i64 s) := KP_19.out.c 1 rfl
  have xP2 : ((u3.alloc (.cells #[.int .i64 0, .int .i64 0, .int .i64 0, .int .i64 0, .int .i64 0, .bool false, .bool false] 23)).alloc (.cells #[.int .i64 0, .int .i64 0, .int .i64 0] 25)).cell? ⟨w.heap.size, 2, none⟩ = some (.int .i64 m) := KP_19.out.c 2 rfl
  have xP3 : ((u3.alloc (.cells #[.int .i64 0, .int .i64 0, .int .i64 0, .int .i64 0, .int .i64 0, .bool false, .bool false] 23)).alloc (.cells #[.int .i64 0, .int .i64 0, .int .i64 0] 25)).cell? ⟨w.heap.size, 3, none⟩ = some (.int .i64 o) := KP_19.out.c 3 rfl
  have xP4 : ((u3.alloc (.cells #[.int .i64 0, .int .i64 0, .int .i64 0, .int .i64 0, .int .i64 0, .bool false, .bool false] 23)).alloc (.cells #[.int .i64 0, .int .i64 0, .int .i64 0] 25)).cell? ⟨w.heap.size, 4, none⟩ = some (.int .i64 k) := KP_19.out.c 4 rfl
  have xP5 : ((u3.alloc (.cells #[.int .i64 0, .int .i64 0, .int .i64 0, .int .i64 0, .int .i64 0, .bool false, .bool false] 23)).alloc (.cells #[.int .i64 0, .int .i64 0, .int .i64 0] 25)).cell? ⟨w.heap.size, 5, none⟩ = some (.bool h) := KP_19.out.c 5 rfl
  have xP6 : ((u3.alloc (.cells #[.int .i64 0, .int .i64 0, .int .i64 0, .int .i64 0, .int .i64 0, .bool false, .bool false] 23)).alloc (.cells #[.int .i64 0, .int .i64 0, .int .i64 0] 25)).cell? ⟨w.heap.size, 6, none⟩ = some (.bool false) := KP_19.out.c 6 rfl
  have zP : w.heap.size < ((u3.alloc (.cells #[.int .i64 0, .int .i64 0, .int .i64 0, .int .i64 0, .int .i64 0, .bool false, .bool false] 23)).alloc (.cells #[.int .i64 0, .int .i64 0, .int .i64 0] 25)).heap.size := KP_19.out.2.2
  have z2P : w.heap.size < ((u3.alloc (.cells #[.int .i64 0, .int .i64 0, .int .i64 0, .int .i64 0, .int .i64 0, .bool false, .bool false] 23)).alloc (.cells #[.int .i64 0, .int .i64 0, .int .i64 0] 25)).heap.size + 1 := by omega
  have xQ0 : ((u3.alloc (.cells #[.int .i64 0, .int .i64 0, .int .i64 0, .int .i64 0, .int .i64 0, .bool false, .bool false] 23)).alloc (.cells #[.int .i64 0, .int .i64 0, .int .i64 0] 25)).cell? ⟨w.heap.size + 1, 0, none⟩ = some (.int .i64 x) := KQ_20.out.c 0 rfl
  have xQ1 : ((u3.alloc (.cells #[.int .i64 0, .int .i64 0, .int .i64 0, .int .i64 0, .int .i64 0, .bool false, .bool false] 23)).alloc (.cells #[.int .i64 0, .int .i64 0, .int .i64 0] 25)).cell? ⟨w.heap.size + 1, 1, none⟩ = some (.int .i64 y) := KQ_20.out.c 1 rfl
  have xQ2 : ((u3.alloc (.cells #[.int .i64 0, .int .i64 0, .int .i64 0, .int .i64 0, .int .i64 0, .bool false, .bool false] 23)).alloc (.cells #[.int .i64 0, .int .i64 0, .int .i64 0] 25)).cell? ⟨w.heap.size + 1, 2, none⟩ = some (.int .i64 z) := KQ_20.out.c 2 rfl
  have zQ : w.heap.size + 1 < ((u3.alloc (.cells #[.int .i64 0, .int .i64 0, .int .i64 0, .int .i64 0, .int .i64 0, .bool false, .bool false] 23)).alloc (.cells #[.int .i64 0, .int .i64 0, .int .i64 0] 25)).heap.size := KQ_20.out.2.2
  have z2Q : w.heap.size + 1 < ((u3.alloc (.cells #[.int .i64 0, .int .i64 0, .int .i64 0, .int .i64 0, .int .i64 0, .bool false, .bool false] 23)).alloc (.cells #[.int .i64 0, .int .i64 0, .int .i64 0] 25)).heap.size + 1 := by omega
  have xE0 : ((u3.alloc (.cells #[.int .i64 0, .int .i64 0, .int .i64 0, .int .i64 0, .int .i64 0, .bool false, .bool false] 23)).alloc (.cells #[.int .i64 0, .int .i64 0, .int .i64 0] 25)).cell? ⟨u3.heap.size, 0, none⟩ = some (.int .i64 0) := KE_21.out.c 0 rfl
  have xE1 : ((u3.alloc (.cells #[.int .i64 0, .int .i64 0, .int .i64 0, .int .i64 0, .int .i64 0, .bool false, .bool false] 23)).alloc (.cells #[.int .i64 0, .int .i64 0, .int .i64 0] 25)).cell? ⟨u3.heap.size, 1, none⟩ = some (.int .i64 0) := KE_21.out.c 1 rfl
  have xE2 : ((u3.alloc (.cells #[.int .i64 0, .int .i64 0, .int .i64 0, .int .i64 0, .int .i64 0, .bool false, .bool false] 23)).alloc (.cells #[.int .i64 0, .int .i64 0, .int .i64 0] 25)).cell? ⟨u3.heap.size, 2, none⟩ = some (.int .i64 0) := KE_21.out.c 2 rfl
  have xE3 : ((u3.alloc (.cells #[.int .i64 0, .int .i64 0, .int .i64 0, .int .i64 0, .int .i64 0, .bool false, .bool false] 23)).alloc (.cells #[.int .i64 0, .int .i64 0, .int .i64 0] 25)).cell? ⟨u3.heap.size, 3, none⟩ = some (.int .i64 0) := KE_21.out.c 3 rfl
  have xE4 : ((u3.alloc (.cells #[.int .i64 0, .int .i64 0, .int .i64 0, .int .i64 0, .int .i64 0, .bool false, .bool false] 23)).alloc (.cells #[.int .i64 0, .int .i64 0, .int .i64 0] 25)).cell? ⟨u3.heap.size, 4, none⟩ = some (.int .i64 0) := KE_21.out.c 4 rfl
  have xE5 : ((u3.alloc (.cells #[.int .i64 0, .int .i64 0, .int .i64 0, .int .i64 0, .int .i64 0, .bool false, .bool false] 23)).alloc (.cells #[.int .i64 0, .int .i64 0, .int .i64 0] 25)).cell? ⟨u3.heap.size, 5, none⟩ = some (.bool false) := KE_21.out.c 5 rfl
  have xE6 : ((u3.alloc (.cells #[.int .i64 0, .int .i64 0, .int .i64 0, .int .i64 0, .int .i64 0, .bool false, .bool false] 23)).alloc (.cells #[.int .i64 0, .int .i64 0, .int .i64 0] 25)).cell? ⟨u3.heap.size, 6, none⟩ = some (.bool false) := KE_21.out.c 6 rfl
  have zE : u3.heap.size < ((u3.alloc (.cells #[.int .i64 0, .int .i64 0, .int .i64 0, .int .i64 0, .int .i64 0, .bool false, .bool false] 23)).alloc (.cells #[.int .i64 0, .int .i64 0, .int .i64 0] 25)).heap.size := KE_21.out.2.2
  have z2E : u3.heap.size < ((u3.alloc (.cells #[.int .i64 0, .int .i64 0, .int .i64 0, .int .i64 0, .int .i64 0, .bool false, .bool false] 23)).alloc (.cells #[.int .i64 0, .int .i64 0, .int .i64 0] 25)).heap.size + 1 := by omega
  have xF0 : ((u3.alloc (.cells #[.int .i64 0, .int .i64 0, .int .i64 0, .int .i64 0, .int .i64 0, .bool false, .bool false] 23)).alloc (.cells #[.int .i64 0, .int .i64 0, .int .i64 0] 25)).cell? ⟨u3.heap.size + 1, 0, none⟩ = some (.int .i64 0) := KF_22.out.c 0 rfl
  have xF1 : ((u3.alloc (.cells #[.int .i64 0, .int .i64 0, .int .i64 0, .int .i64 0, .int .i64 0, .bool false, .bool false] 23)).alloc (.cells #[.int .i64 0, .int .i64 0, .int .i64 0] 25)).cell? ⟨u3.heap.size + 1, 1, none⟩ = some (.int .i64 0) := KF_22.out.c 1 rfl
  have xF2 : ((u3.alloc (.cells #[.int .i64 0, .int .i64 0, .int .i64 0, .int .i64 0, .int .i64 0, .bool false, .bool false] 23)).alloc (.cells #[.int .i64 0, .int .i64 0, .int .i64 0] 25)).cell? ⟨u3.heap.size + 1, 2, none⟩ = some (.int .i64 0) := KF_22.out.c 2 rfl
  have zF : u3.heap.size + 1 < ((u3.alloc (.cells #[.int .i64 0, .int .i64 0, .int .i64 0, .int .i64 0, .int .i64 0, .bool false, .bool false] 23)).alloc (.cells #[.int .i64 0, .int .i64 0, .int .i64 0] 25)).heap.size := KF_22.out.2.2
  have z2F : u3.heap.size + 1 < ((u3.alloc (.cells #[.int .i64 0, .int .i64 0, .int .i64 0, .int .i64 0, .int .i64 0, .bool false, .bool false] 23)).alloc (.cells #[.int .i64 0, .int .i64 0, .int .i64 0] 25)).heap.size + 1 := by omega
  go_wp2
  go_ret
  exact ⟨rfl, HB23.out⟩
set_option maxRecDepth 100000 in
set_option maxHeartbeats 4000000 in
theorem sides_17_false (c s m o k : Int) (h : Bool) (x y z : Int) (w : World) (hv : vld s m o k false = true) (hw : RW c s m o k h false x y z 17 zj zh) : Calls Try.prog 7 #[.agg (jc c s m o k h false), .agg (hc3 x y z)] w fun e w' => e = .returned (.bool true) ∧ Below w.heap.size w w' := by
  replace hv := Lib.hid hv
  replace hw := Lib.hid hw
  have HB0 := Lib.hid (Below.refl w.heap.size w)
  go_enter Try.func7, Try.ntmps7
  have KP_1 := Lib.hid (Cs.new w (w.heap.size) #[.int .i64 c, .int .i64 s, .int .i64 m, .int .i64 o, .int .i64 k, .bool h, .bool false] 23 (by simp))
  have HB2 : Hid (Below w.heap.size w (w.alloc (.cells #[.int .i64 c, .int .i64 s, .int .i64 m, .int .i64 o, .int .i64 k, .bool h, .bool false] 23))) := HB0.out.alloc HB0.out.size _
  clear HB0
  have KP_3 := Lib.hid (KP_1.out.alloc (.cells #[.int .i64 x, .int .i64 y, .int .i64 z] 25))
  clear KP_1
  have KQ_4 := Lib.hid (Cs.new (w.alloc (.cells #[.int .i64 c, .int .i64 s, .int .i64 m, .int .i64 o, .int .i64 k, .bool h, .bool false] 23)) (w.heap.size + 1) #[.int .i64 x, .int .i64 y, .int .i64 z] 25 (by simp))
  have HB5 : Hid (Below w.heap.size w ((w.alloc (.cells #[.int .i64 c, .int .i64 s, .int .i64 m, .int .i64 o, .int .i64 k, .bool h, .bool false] 23)).alloc (.cells #[.int .i64 x, .int .i64 y, .int .i64 z] 25))) := HB2.out.alloc HB2.out.size _
  clear HB2
  go_wp2_with fail
  refine (head_any _).mono ?_
  rintro e u1 ⟨rfl, b1⟩
  have KP_6 := Lib.hid (KP_3.out.step b1)
  clear KP_3
  have KQ_7 := Lib.hid (KQ_4.out.step b1)
  clear KQ_4
  have HB8 := Lib.hid (keep2 b1 HB5.out)
  clear HB5 b1
  have xP0 : u1.cell? ⟨w.heap.size, 0, none⟩ = some (.int .i64 c) := KP_6.out.c 0 rfl
  have xP1 : u1.cell? ⟨w.heap.size, 1, none⟩ = some (.int .i64 s) := KP_6.out.c 1 rfl
  have xP2 : u1.cell? ⟨w.heap.size, 2, none⟩ = some (.int .i64 m) := KP_6.out.c 2 rfl
  have xP3 : u1.cell? ⟨w.heap.size, 3, none⟩ = some (.int .i64 o) := KP_6.out.c 3 rfl
  have xP4 : u1.cell? ⟨w.heap.size, 4, none⟩ = some (.int .i64 k) := KP_6.out.c 4 rfl
  have xP5 : u1.cell? ⟨w.heap.size, 5, none⟩ = some (.bool h) := KP_6.out.c 5 rfl
  have xP6 : u1.cell? ⟨w.heap.size, 6, none⟩ = some (.bool false) := KP_6.out.c 6 rfl
  have zP : w.heap.size < u1.heap.size := KP_6.out.2.2
  have z2P : w.heap.size < u1.heap.size + 1 := by omega
  go_wp2_with fail
  refine (rvalid_at c s m o k h false true _ hv.out).mono ?_
  rintro e u2 ⟨rfl, b2⟩
  clear xP0 xP1 xP2 xP3 xP4 xP5 xP6 zP z2P
  have KP_9 := Lib.hid (KP_6.out.step b2)
  clear KP_6
  have KQ_10 := Lib.hid (KQ_7.out.step b2)
  clear KQ_7
  have HB11 := Lib.hid (keep2 b2 HB8.out)
  clear HB8 b2
  have xP0 : u2.cell? ⟨w.heap.size, 0, none⟩ = some (.int .i64 c) := KP_9.out.c 0 rfl
  have xP1 : u2.cell? ⟨w.heap.size, 1, none⟩ = some (.int .i64 s) := KP_9.out.c 1 rfl
  have xP2 : u2.cell? ⟨w.heap.size, 2, none⟩ = some (.int .i64 m) := KP_9.out.c 2 rfl
  have xP3 : u2.cell? ⟨w.heap.size, 3, none⟩ = some (.int .i64 o) := KP_9.out.c 3 rfl
  have xP4 : u2.cell? ⟨w.heap.size, 4, none⟩ = some (.int .i64 k) := KP_9.out.c 4 rfl
  have xP5 : u2.cell? ⟨w.heap.size, 5, none⟩ = some (.bool h) := KP_9.out.c 5 rfl
  have xP6 : u2.cell? ⟨w.heap.size, 6, none⟩ = some (.bool false) := KP_9.out.c 6 rfl
  have zP : w.heap.size < u2.heap.size := KP_9.out.2.2
  have z2P : w.heap.size < u2.heap.size + 1 := by omega
  have xQ0 : u2.cell? ⟨w.heap.size + 1, 0, none⟩ = some (.int .i64 x) := KQ_10.out.c 0 rfl
  have xQ1 : u2.cell? ⟨w.heap.size + 1, 1, none⟩ = some (.int .i64 y) := KQ_10.out.c 1 rfl
  have xQ2 : u2.cell? ⟨w.heap.size + 1, 2, none⟩ = some (.int .i64 z) := KQ_10.out.c 2 rfl
  have zQ : w.heap.size + 1 < u2.heap.size := KQ_10.out.2.2
  have z2Q : w.heap.size + 1 < u2.heap.size + 1 := by omega
  go_wp2_with fail
  refine (recv_is c s m o k h false x y z 17 _ _ _ hw.out).mono ?_
  rintro e u3 ⟨rfl, b3⟩
  clear xP0 xP1 xP2 xP3 xP4 xP5 xP6 zP z2P xQ0 xQ1 xQ2 zQ z2Q
  have KP_12 := Lib.hid (KP_9.out.step b3)
  clear KP_9
  have KQ_13 := Lib.hid (KQ_10.out.step b3)
  clear KQ_10
  have HB14 := Lib.hid (keep2 b3 HB11.out)
  clear HB11 b3
  have KP_15 := Lib.hid (KP_12.out.alloc (.cells #[.int .i64 0, .int .i64 0, .int .i64 0, .int .i64 0, .int .i64 0, .bool false, .bool false] 23))
  clear KP_12
  have KQ_16 := Lib.hid (KQ_13.out.alloc (.cells #[.int .i64 0, .int .i64 0, .int .i64 0, .int .i64 0, .int .i64 0, .bool false, .bool false] 23))
  clear KQ_13
  have KE_17 := Lib.hid (Cs.new u3 (u3.heap.size) #[.int .i64 0, .int .i64 0, .int .i64 0, .int .i64 0, .int .i64 0, .bool false, .bool false] 23 (by simp))
  have HB18 : Hid (Below w.heap.size w (u3.alloc (.cells #[.int .i64 0, .int .i64 0, .int .i64 0, .int .i64 0, .int .i64 0, .bool false, .bool false] 23))) := HB14.out.alloc HB14.out.size _
  clear HB14
  have KP_19 := Lib.hid (KP_15.out.alloc (.cells #[.int .i64 0, .int .i64 0, .int .i64 0] 25))
  clear KP_15
  have KQ_20 := Lib.hid (KQ_16.out.alloc (.cells #[.int .i64 0, .int .i64 0, .int .i64 0] 25))
  clear KQ_16
  have KE_21 := Lib.hid (KE_17.out.alloc (.cells #[.int .i64 0, .int .i64 0, .int .i64 0] 25))
  clear KE_17
  have KF_22 := Lib.hid (Cs.new (u3.alloc (.cells #[.int .i64 0, .int .i64 0, .int .i64 0, .int .i64 0, .int .i64 0, .bool false, .bool false] 23)) (u3.heap.size + 1) #[.int .i64 0, .int .i64 0, .int .i64 0] 25 (by simp))
  have HB23 : Hid (Below w.heap.size w ((u3.alloc (.cells #[.int .i64 0, .int .i64 0, .int .i64 0, .int .i64 0, .int .i64 0, .bool false, .bool false] 23)).alloc (.cells #[.int .i64 0, .int .i64 0, .int .i64 0] 25))) := HB18.out.alloc HB18.out.size _
  clear HB18
  have xP0 : ((u3.alloc (.cells #[.int .i64 0, .int .i64 0, .int .i64 0, .int .i64 0, .int .i64 0, .bool false, .bool false] 23)).alloc (.cells #[.int .i64 0, .int .i64 0, .int .i64 0] 25)).cell? ⟨w.heap.size, 0, none⟩ = some (.int .i64 c) := KP_19.out.c 0 rfl
  have xP1 : ((u3.alloc (.cells #[.int .i64 0, .int .i64 0, .int .i64 0, .int .i64 0, .int .i64 0, .bool false, .bool false] 23)).alloc (.cells #[.int .i64 0, .int .i64 0, .int .i64 0] 25)).cell? ⟨w.heap.size, 1, none⟩ = some (.int .i64 s) := KP_19.out.c 1 rfl
  have xP2 : ((u3.alloc (.cells #[.int .i64 0, .int .i64 0, .int .i64 0, .int .i64 0, .int .i64 0, .bool false, .bool false] 23)).alloc (.cells #[.int .i64 0, .int .i64 0, .int .i64 0] 25)).cell? ⟨w.heap.size, 2, none⟩ = some (.int .i64 m) := KP_19.out.c 2 rfl
  have xP3 : ((u3.alloc (.cells #[.int .i64 0, .int .i64 0, .int .i64 0, .int .i64 0, .int .i64 0, .bool false, .bool false] 23)).alloc (.cells #[.int .i64 0, .int .i64 0, .int .i64 0] 25)).cell? ⟨w.heap.size, 3, none⟩ = some (.int .i64 o) := KP_19.out.c 3 rfl
  have xP4 : ((u3.alloc (.cells #[.int .i64 0, .int .i64 0, .int .i64 0, .int .i64 0, .int .i64 0, .bool false, .bool false] 23)).alloc (.cells #[.int .i64 0, .int .i64 0, .int .i64 0] 25)).cell? ⟨w.heap.size, 4, none⟩ = some (.int .i64 k) := KP_19.out.c 4 rfl
  have xP5 : ((u3.alloc (.cells #[.int .i64 0, .int .i64 0, .int .i64 0, .int .i64 0, .int .i64 0, .bool false, .bool false] 23)).alloc (.cells #[.int .i64 0, .int .i64 0, .int .i64 0] 25)).cell? ⟨w.heap.size, 5, none⟩ = some (.bool h) := KP_19.out.c 5 rfl
  have xP6 : ((u3.alloc (.cells #[.int .i64 0, .int .i64 0, .int .i64 0, .int .i64 0, .int .i64 0, .bool false, .bool false] 23)).alloc (.cells #[.int .i64 0, .int .i64 0, .int .i64 0] 25)).cell? ⟨w.heap.size, 6, none⟩ = some (.bool false) := KP_19.out.c 6 rfl
  have zP : w.heap.size < ((u3.alloc (.cells #[.int .i64 0, .int .i64 0, .int .i64 0, .int .i64 0, .int .i64 0, .bool false, .bool false] 23)).alloc (.cells #[.int .i64 0, .int .i64 0, .int .i64 0] 25)).heap.size := KP_19.out.2.2
  have z2P : w.heap.size < ((u3.alloc (.cells #[.int .i64 0, .int .i64 0, .int .i64 0, .int .i64 0, .int .i64 0, .bool false, .bool false] 23)).alloc (.cells #[.int .i64 0, .int .i64 0, .int .i64 0] 25)).heap.size + 1 := by omega
  have xQ0 : ((u3.alloc (.cells #[.int .i64 0, .int .i64 0, .int .i64 0, .int .i64 0, .int .i64 0, .bool false, .bool false] 23)).alloc (.cells #[.int .i64 0, .int .i64 0, .int .i64 0] 25)).cell? ⟨w.heap.size + 1, 0, none⟩ = some (.int .i64 x) := KQ_20.out.c 0 rfl
  have xQ1 : ((u3.alloc (.cells #[.int .i64 0, .int .i64 0, .int .i64 0, .int .i64 0, .int .i64 0, .bool false, .bool false] 23)).alloc (.cells #[.int .i64 0, .int .i64 0, .int .i64 0] 25)).cell? ⟨w.heap.size + 1, 1, none⟩ = some (.int .i64 y) := KQ_20.out.c 1 rfl
  have xQ2 : ((u3.alloc (.cells #[.int .i64 0, .int .i64 0, .int .i64 0, .int .i64 0, .int .i64 0, .bool false, .bool false] 23)).alloc (.cells #[.int .i64 0, .int .i64 0, .int .i64 0] 25)).cell? ⟨w.heap.size + 1, 2, none⟩ = some (.int .i64 z) := KQ_20.out.c 2 rfl
  have zQ : w.heap.size + 1 < ((u3.alloc (.cells #[.int .i64 0, .int .i64 0, .int .i64 0, .int .i64 0, .int .i64 0, .bool false, .bool false] 23)).alloc (.cells #[.int .i64 0, .int .i64 0, .int .i64 0] 25)).heap.size := KQ_20.out.2.2
  have z2Q : w.heap.size + 1 < ((u3.alloc (.cells #[.int .i64 0, .int .i64 0, .int .i64 0, .int .i64 0, .int .i64 0, .bool false, .bool false] 23)).alloc (.cells #[.int .i64 0, .int .i64 0, .int .i64 0] 25)).heap.size + 1 := by omega
  have xE0 : ((u3.alloc (.cells #[.int .i64 0, .int .i64 0, .int .i64 0, .int .i64 0, .int .i64 0, .bool false, .bool false] 23)).alloc (.cells #[.int .i64 0, .int .i64 0, .int .i64 0] 25)).cell? ⟨u3.heap.size, 0, none⟩ = some (.int .i64 0) := KE_21.out.c 0 rfl
  have xE1 : ((u3.alloc (.cells #[.int .i64 0, .int .i64 0, .int .i64 0, .int .i64 0, .int .i64 0, .bool false, .bool false] 23)).alloc (.cells #[.int .i64 0, .int .i64 0, .int .i64 0] 25)).cell? ⟨u3.heap.size, 1, none⟩ = some (.int .i64 0) := KE_21.out.c 1 rfl
  have xE2 : ((u3.alloc (.cells #[.int .i64 0, .int .i64 0, .int .i64 0, .int .i64 0, .int .i64 0, .bool false, .bool false] 23)).alloc (.cells #[.int .i64 0, .int .i64 0, .int .i64 0] 25)).cell? ⟨u3.heap.size, 2, none⟩ = some (.int .i64 0) := KE_21.out.c 2 rfl
  have xE3 : ((u3.alloc (.cells #[.int .i64 0, .int .i64 0, .int .i64 0, .int .i64 0, .int .i64 0, .bool false, .bool false] 23)).alloc (.cells #[.int .i64 0, .int .i64 0, .int .i64 0] 25)).cell? ⟨u3.heap.size, 3, none⟩ = some (.int .i64 0) := KE_21.out.c 3 rfl
  have xE4 : ((u3.alloc (.cells #[.int .i64 0, .int .i64 0, .int .i64 0, .int .i64 0, .int .i64 0, .bool false, .bool false] 23)).alloc (.cells #[.int .i64 0, .int .i64 0, .int .i64 0] 25)).cell? ⟨u3.heap.size, 4, none⟩ = some (.int .i64 0) := KE_21.out.c 4 rfl
  have xE5 : ((u3.alloc (.cells #[.int .i64 0, .int .i64 0, .int .i64 0, .int .i64 0, .int .i64 0, .bool false, .bool false] 23)).alloc (.cells #[.int .i64 0, .int .i64 0, .int .i64 0] 25)).cell? ⟨u3.heap.size, 5, none⟩ = some (.bool false) := KE_21.out.c 5 rfl
  have xE6 : ((u3.alloc (.cells #[.int .i64 0, .int .i64 0, .int .i64 0, .int .i64 0, .int .i64 0, .bool false, .bool false] 23)).alloc (.cells #[.int .i64 0, .int .i64 0, .int .i64 0] 25)).cell? ⟨u3.heap.size, 6, none⟩ = some (.bool false) := KE_21.out.c 6 rfl
  have zE : u3.heap.size < ((u3.alloc (.cells #[.int .i64 0, .int .i64 0, .int .i64 0, .int .i64 0, .int .i64 0, .bool false, .bool false] 23)).alloc (.cells #[.int .i64 0, .int .i64 0, .int .i64 0] 25)).heap.size := KE_21.out.2.2
  have z2E : u3.heap.size < ((u3.alloc (.cells #[.int .i64 0, .int .i64 0, .int .i64 0, .int .i64 0, .int .i64 0, .bool false, .bool false] 23)).alloc (.cells #[.int .i64 0, .int .i64 0, .int .i64 0] 25)).heap.size + 1 := by omega
  have xF0 : ((u3.alloc (.cells #[.int .i64 0, .int .i64 0, .int .i64 0, .int .i64 0, .int .i64 0, .bool false, .bool false] 23)).alloc (.cells #[.int .i64 0, .int .i64 0, .int .i64 0] 25)).cell? ⟨u3.heap.size + 1, 0, none⟩ = some (.int .i64 0) := KF_22.out.c 0 rfl
  have xF1 : ((u3.alloc (.cells #[.int .i64 0, .int .i64 0, .int .i64 0, .int .i64 0, .int .i64 0, .bool false, .bool false] 23)).alloc (.cells #[.int .i64 0, .int .i64 0, .int .i64 0] 25)).cell? ⟨u3.heap.size + 1, 1, none⟩ = some (.int .i64 0) := KF_22.out.c 1 rfl
  have xF2 : ((u3.alloc (.cells #[.int .i64 0, .int .i64 0, .int .i64 0, .int .i64 0, .int .i64 0, .bool false, .bool false] 23)).alloc (.cells #[.int .i64 0, .int .i64 0, .int .i64 0] 25)).cell? ⟨u3.heap.size + 1, 2, none⟩ = some (.int .i64 0) := KF_22.out.c 2 rfl
  have zF : u3.heap.size + 1 < ((u3.alloc (.cells #[.int .i64 0, .int .i64 0, .int .i64 0, .int .i64 0, .int .i64 0, .bool false, .bool false] 23)).alloc (.cells #[.int .i64 0, .int .i64 0, .int .i64 0] 25)).heap.size := KF_22.out.2.2
  have z2F : u3.heap.size + 1 < ((u3.alloc (.cells #[.int .i64 0, .int .i64 0, .int .i64 0, .int .i64 0, .int .i64 0, .bool false, .bool false] 23)).alloc (.cells #[.int .i64 0, .int .i64 0, .int .i64 0] 25)).heap.size + 1 := by omega
  go_wp2
  go_ret
  exact ⟨rfl, HB23.out⟩
set_option maxRecDepth 100000 in
set_option maxHeartbeats 4000000 in
theorem sides_meet (c s m o y z q : Int) (w : World) (hv : vld s m o 0 false = true) (hw : RW c s m o 0 true false 1 y z 0 (jc c s m y 0 true false) (hc3 2 m q)) (hv2 : vld s m y 0 false = true) : Calls Try.prog 7 #[.agg (jc c s m o 0 true false), .agg (hc3 1 y z)] w fun e w' => e = .returned (.bool true) ∧ Below w.heap.size w w' := by
  replace hv := Lib.hid hv
  replace hw := Lib.hid hw
  replace hv2 := Lib.hid hv2
  have HB0 := Lib.hid (Below.refl w.heap.size w)
  go_enter Try.func7, Try.ntmps7
  have KP_1 := Lib.hid (Cs.new w (w.heap.size) #[.int .i64 c, .int .i64 s, .int .i64 m, .int .i64 o, .int .i64 0, .bool true, .bool false] 23 (by simp))
  have HB2 : Hid (Below w.heap.size w (w.alloc (.cells #[.int .i64 c, .int .i64 s, .int .i64 m, .int .i64 o, .int .i64 0, .bool true, .bool false] 23))) := HB0.out.alloc HB0.out.size _
  clear HB0
  have KP_3 := Lib.hid (KP_1.out.alloc (.cells #[.int .i64 1, .int .i64 y, .int .i64 z] 25))
  clear KP_1
  have KQ_4 := Lib.hid (Cs.new (w.alloc (.cells #[.int .i64 c, .int .i64 s, .int .i64 m, .int .i64 o, .int .i64 0, .bool true, .bool false] 23)) (w.heap.size + 1) #[.int .i64 1, .int .i64 y, .int .i64 z] 25 (by simp))
  have HB5 : Hid (Below w.heap.size w ((w.alloc (.cells #[.int .i64 c, .int .i64 s, .int .i64 m, .int .i64 o, .int .i64 0, .bool true, .bool false] 23)).alloc (.cells #[.int .i64 1, .int .i64 y, .int .i64 z] 25))) := HB2.out.alloc HB2.out.size _
  clear HB2
  go_wp2_with fail
  refine (head_any _).mono ?_
  rintro e u1 ⟨rfl, b1⟩
  have KP_6 := Lib.hid (KP_3.out.step b1)
  clear KP_3
  have KQ_7 := Lib.hid (KQ_4.out.step b1)
  clear KQ_4
  have HB8 := Lib.hid (keep2 b1 HB5.out)
  clear HB5 b1
  have xP0 : u1.cell? ⟨w.heap.size, 0, none⟩ = some (.int .i64 c) := KP_6.out.c 0 rfl
  have xP1 : u1.cell? ⟨w.heap.size, 1, none⟩ = some (.int .i64 s) := KP_6.out.c 1 rfl
  have xP2 : u1.cell? ⟨w.heap.size, 2, none⟩ = some (.int .i64 m) := KP_6.out.c 2 rfl
  have xP3 : u1.cell? ⟨w.heap.size, 3, none⟩ = some (.int .i64 o) := KP_6.out.c 3 rfl
  have xP4 : u1.cell? ⟨w.heap.size, 4, none⟩ = some (.int .i64 0) := KP_6.out.c 4 rfl
  have xP5 : u1.cell? ⟨w.heap.size, 5, none⟩ = some (.bool true) := KP_6.out.c 5 rfl
  have xP6 : u1.cell? ⟨w.heap.size, 6, none⟩ = some (.bool false) := KP_6.out.c 6 rfl
  have zP : w.heap.size < u1.heap.size := KP_6.out.2.2
  have z2P : w.heap.size < u1.heap.size + 1 := by omega
  go_wp2_with fail
  refine (rvalid_at c s m o 0 true false true _ hv.out).mono ?_
  rintro e u2 ⟨rfl, b2⟩
  clear xP0 xP1 xP2 xP3 xP4 xP5 xP6 zP z2P
  have KP_9 := Lib.hid (KP_6.out.step b2)
  clear KP_6
  have KQ_10 := Lib.hid (KQ_7.out.step b2)
  clear KQ_7
  have HB11 := Lib.hid (keep2 b2 HB8.out)
  clear HB8 b2
  have xP0 : u2.cell? ⟨w.heap.size, 0, none⟩ = some (.int .i64 c) := KP_9.out.c 0 rfl
  have xP1 : u2.cell? ⟨w.heap.size, 1, none⟩ = some (.int .i64 s) := KP_9.out.c 1 rfl
  have xP2 : u2.cell? ⟨w.heap.size, 2, none⟩ = some (.int .i64 m) := KP_9.out.c 2 rfl
  have xP3 : u2.cell? ⟨w.heap.size, 3, none⟩ = some (.int .i64 o) := KP_9.out.c 3 rfl
  have xP4 : u2.cell? ⟨w.heap.size, 4, none⟩ = some (.int .i64 0) := KP_9.out.c 4 rfl
  have xP5 : u2.cell? ⟨w.heap.size, 5, none⟩ = some (.bool true) := KP_9.out.c 5 rfl
  have xP6 : u2.cell? ⟨w.heap.size, 6, none⟩ = some (.bool false) := KP_9.out.c 6 rfl
  have zP : w.heap.size < u2.heap.size := KP_9.out.2.2
  have z2P : w.heap.size < u2.heap.size + 1 := by omega
  have xQ0 : u2.cell? ⟨w.heap.size + 1, 0, none⟩ = some (.int .i64 1) := KQ_10.out.c 0 rfl
  have xQ1 : u2.cell? ⟨w.heap.size + 1, 1, none⟩ = some (.int .i64 y) := KQ_10.out.c 1 rfl
  have xQ2 : u2.cell? ⟨w.heap.size + 1, 2, none⟩ = some (.int .i64 z) := KQ_10.out.c 2 rfl
  have zQ : w.heap.size + 1 < u2.heap.size := KQ_10.out.2.2
  have z2Q : w.heap.size + 1 < u2.heap.size + 1 := by omega
  go_wp2_with fail
  refine (recv_is c s m o 0 true false 1 y z 0 _ _ _ hw.out).mono ?_
  rintro e u3 ⟨rfl, b3⟩
  clear xP0 xP1 xP2 xP3 xP4 xP5 xP6 zP z2P xQ0 xQ1 xQ2 zQ z2Q
  have KP_12 := Lib.hid (KP_9.out.step b3)
  clear KP_9
  have KQ_13 := Lib.hid (KQ_10.out.step b3)
  clear KQ_10
  have HB14 := Lib.hid (keep2 b3 HB11.out)
  clear HB11 b3
  have KP_15 := Lib.hid (KP_12.out.alloc (.cells #[.int .i64 c, .int .i64 s, .int .i64 m, .int .i64 y, .int .i64 0, .bool true, .bool false] 23))
  clear KP_12
  have KQ_16 := Lib.hid (KQ_13.out.alloc (.cells #[.int .i64 c, .int .i64 s, .int .i64 m, .int .i64 y, .int .i64 0, .bool true, .bool false] 23))
  clear KQ_13
  have KE_17 := Lib.hid (Cs.new u3 (u3.heap.size) #[.int .i64 c, .int .i64 s, .int .i64 m, .int .i64 y, .int .i64 0, .bool true, .bool false] 23 (by simp))
  have HB18 : Hid (Below w.heap.size w (u3.alloc (.cells #[.int .i64 c, .int .i64 s, .int .i64 m, .int .i64 y, .int .i64 0, .bool true, .bool false] 23))) := HB14.out.alloc HB14.out.size _
  clear HB14
  have KP_19 := Lib.hid (KP_15.out.alloc (.cells #[.int .i64 2, .int .i64 m, .int .i64 q] 25))
  clear KP_15
  have KQ_20 := Lib.hid (KQ_16.out.alloc (.cells #[.int .i64 2, .int .i64 m, .int .i64 q] 25))
  clear KQ_16
  have KE_21 := Lib.hid (KE_17.out.alloc (.cells #[.int .i64 2, .int .i64 m, .int .i64 q] 25))
  clear KE_17
  have KF_22 := Lib.hid (Cs.new (u3.alloc (.cells #[.int .i64 c, .int .i64 s, .int .i64 m, .int .i64 y, .int .i64 0, .bool true, .bool false] 23)) (u3.heap.size + 1) #[.int .i64 2, .int .i64 m, .int .i64 q] 25 (by simp))
  have HB23 : Hid (Below w.heap.size w ((u3.alloc (.cells #[.int .i64 c, .int .i64 s, .int .i64 m, .int .i64 y, .int .i64 0, .bool true, .bool false] 23)).alloc (.cells #[.int .i64 2, .int .i64 m, .int .i64 q] 25))) := HB18.out.alloc HB18.out.size _
  clear HB18
  have xP0 : ((u3.alloc (.cells #[.int .i64 c, .int .i64 s, .int .i64 m, .int .i64 y, .int .i64 0, .bool true, .bool false] 23)).alloc (.cells #[.int .i64 2, .int .i64 m, .int .i64 q] 25)).cell? ⟨w.heap.size, 0, none⟩ = some (.int .i64 c) := KP_19.out.c 0 rfl
  have xP1 : ((u3.alloc (.cells #[.int .i64 c, .int .i64 s, .int .i64 m, .int .i64 y, .int .i64 0, .bool true, .bool false] 23)).alloc (.cells #[.int .i64 2, .int .i64 m, .int .i64 q] 25)).cell? ⟨w.heap.size, 1, none⟩ = some (.int .i64 s) := KP_19.out.c 1 rfl
  have xP2 : ((u3.alloc (.cells #[.int .i64 c, .int .i64 s, .int .i64 m, .int .i64 y, .int .i64 0, .bool true, .bool false] 23)).alloc (.cells #[.int .i64 2, .int .i64 m, .int .i64 q] 25)).cell? ⟨w.heap.size, 2, none⟩ = some (.int .i64 m) := KP_19.out.c 2 rfl
  have xP3 : ((u3.alloc (.cells #[.int .i64 c, .int .i64 s, .int .i64 m, .int .i64 y, .int .i64 0, .bool true, .bool false] 23)).alloc (.cells #[.int .i64 2, .int .i64 m, .int .i64 q] 25)).cell? ⟨w.heap.size, 3, none⟩ = some (.int .i64 o) := KP_19.out.c 3 rfl
  have xP4 : ((u3.alloc (.cells #[.int .i64 c, .int .i64 s, .int .i64 m, .int .i64 y, .int .i64 0, .bool true, .bool false] 23)).alloc (.cells #[.int .i64 2, .int .i64 m, .int .i64 q] 25)).cell? ⟨w.heap.size, 4, none⟩ = some (.int .i64 0) := KP_19.out.c 4 rfl
  have xP5 : ((u3.alloc (.cells #[.int .i64 c, .int .i64 s, .int .i64 m, .int .i64 y, .int .i64 0, .bool true, .bool false] 23)).alloc (.cells #[.int .i64 2, .int .i64 m, .int .i64 q] 25)).cell? ⟨w.heap.size, 5, none⟩ = some (.bool true) := KP_19.out.c 5 rfl
  have xP6 : ((u3.alloc (.cells #[.int .i64 c, .int .i64 s, .int .i64 m, .int .i64 y, .int .i64 0, .bool true, .bool false] 23)).alloc (.cells #[.int .i64 2, .int .i64 m, .int .i64 q] 25)).cell? ⟨w.heap.size, 6, none⟩ = some (.bool false) := KP_19.out.c 6 rfl
  have zP : w.heap.size < ((u3.alloc (.cells #[.int .i64 c, .int .i64 s, .int .i64 m, .int .i64 y, .int .i64 0, .bool true, .bool false] 23)).alloc (.cells #[.int .i64 2, .int .i64 m, .int .i64 q] 25)).heap.size := KP_19.out.2.2
  have z2P : w.heap.size < ((u3.alloc (.cells #[.int .i64 c, .int .i64 s, .int .i64 m, .int .i64 y, .int .i64 0, .bool true, .bool false] 23)).alloc (.cells #[.int .i64 2, .int .i64 m, .int .i64 q] 25)).heap.size + 1 := by omega
  have xQ0 : ((u3.alloc (.cells #[.int .i64 c, .int .i64 s, .int .i64 m, .int .i64 y, .int .i64 0, .bool true, .bool false] 23)).alloc (.cells #[.int .i64 2, .int .i64 m, .int .i64 q] 25)).cell? ⟨w.heap.size + 1, 0, none⟩ = some (.int .i64 1) := KQ_20.out.c 0 rfl
  have xQ1 : ((u3.alloc (.cells #[.int .i64 c, .int .i64 s, .int .i64 m, .int .i64 y, .int .i64 0, .bool true, .bool false] 23)).alloc (.cells #[.int .i64 2, .int .i64 m, .int .i64 q] 25)).cell? ⟨w.heap.size + 1, 1, none⟩ = some (.int .i64 y) := KQ_20.out.c 1 rfl
  have xQ2 : ((u3.alloc (.cells #[.int .i64 c, .int .i64 s, .int .i64 m, .int .i64 y, .int .i64 0, .bool true, .bool false] 23)).alloc (.cells #[.int .i64 2, .int .i64 m, .int .i64 q] 25)).cell? ⟨w.heap.size + 1, 2, none⟩ = some (.int .i64 z) := KQ_20.out.c 2 rfl
  have zQ : w.heap.size + 1 < ((u3.alloc (.cells #[.int .i64 c, .int .i64 s, .int .i64 m, .int .i64 y, .int .i64 0, .bool true, .bool false] 23)).alloc (.cells #[.int .i64 2, .int .i64 m, .int .i64 q] 25)).heap.size := KQ_20.out.2.2
  have z2Q : w.heap.size + 1 < ((u3.alloc (.cells #[.int .i64 c, .int .i64 s, .int .i64 m, .int .i64 y, .int .i64 0, .bool true, .bool false] 23)).alloc (.cells #[.int .i64 2, .int .i64 m, .int .i64 q] 25)).heap.size + 1 := by omega
  have xE0 : ((u3.alloc (.cells #[.int .i64 c, .int .i64 s, .int .i64 m, .int .i64 y, .int .i64 0, .bool true, .bool false] 23)).alloc (.cells #[.int .i64 2, .int .i64 m, .int .i64 q] 25)).cell? ⟨u3.heap.size, 0, none⟩ = some (.int .i64 c) := KE_21.out.c 0 rfl
  have xE1 : ((u3.alloc (.cells #[.int .i64 c, .int .i64 s, .int .i64 m, .int .i64 y, .int .i64 0, .bool true, .bool false] 23)).alloc (.cells #[.int .i64 2, .int .i64 m, .int .i64 q] 25)).cell? ⟨u3.heap.size, 1, none⟩ = some (.int .i64 s) := KE_21.out.c 1 rfl
  have xE2 : ((u3.alloc (.cells #[.int .i64 c, .int .i64 s, .int .i64 m, .int .i64 y, .int .i64 0, .bool true, .bool false] 23)).alloc (.cells #[.int .i64 2, .int .i64 m, .int .i64 q] 25)).cell? ⟨u3.heap.size, 2, none⟩ = some (.int .i64 m) := KE_21.out.c 2 rfl
  have xE3 : ((u3.alloc (.cells #[.int .i64 c, .int .i64 s, .int .i64 m, .int .i64 y, .int .i64 0, .bool true, .bool false] 23)).alloc (.cells #[.int .i64 2, .int .i64 m, .int .i64 q] 25)).cell? ⟨u3.heap.size, 3, none⟩ = some (.int .i64 y) := KE_21.out.c 3 rfl
  have xE4 : ((u3.alloc (.cells #[.int .i64 c, .int .i64 s, .int .i64 m, .int .i64 y, .int .i64 0, .bool true, .bool false] 23)).alloc (.cells #[.int .i64 2, .int .i64 m, .int .i64 q] 25)).cell? ⟨u3.heap.size, 4, none⟩ = some (.int .i64 0) := KE_21.out.c 4 rfl
  have xE5 : ((u3.alloc (.cells #[.int .i64 c, .int .i64 s, .int .i64 m, .int .i64 y, .int .i64 0, .bool true, .bool false] 23)).alloc (.cells #[.int .i64 2, .int .i64 m, .int .i64 q] 25)).cell? ⟨u3.heap.size, 5, none⟩ = some (.bool true) := KE_21.out.c 5 rfl
  have xE6 : ((u3.alloc (.cells #[.int .i64 c, .int .i64 s, .int .i64 m, .int .i64 y, .int .i64 0, .bool true, .bool false] 23)).alloc (.cells #[.int .i64 2, .int .i64 m, .int .i64 q] 25)).cell? ⟨u3.heap.size, 6, none⟩ = some (.bool false) := KE_21.out.c 6 rfl
  have zE : u3.heap.size < ((u3.alloc (.cells #[.int .i64 c, .int .i64 s, .int .i64 m, .int .i64 y, .int .i64 0, .bool true, .bool false] 23)).alloc (.cells #[.int .i64 2, .int .i64 m, .int .i64 q] 25)).heap.size := KE_21.out.2.2
  have z2E : u3.heap.size < ((u3.alloc (.cells #[.int .i64 c, .int .i64 s, .int .i64 m, .int .i64 y, .int .i64 0, .bool true, .bool false] 23)).alloc (.cells #[.int .i64 2, .int .i64 m, .int .i64 q] 25)).heap.size + 1 := by omega
  have xF0 : ((u3.alloc (.cells #[.int .i64 c, .int .i64 s, .int .i64 m, .int .i64 y, .int .i64 0, .bool true, .bool false] 23)).alloc (.cells #[.int .i64 2, .int .i64 m, .int .i64 q] 25)).cell? ⟨u3.heap.size + 1, 0, none⟩ = some (.int .i64 2) := KF_22.out.c 0 rfl
  have xF1 : ((u3.alloc (.cells #[.int .i64 c, .int .i64 s, .int .i64 m, .int .i64 y, .int .i64 0, .bool true, .bool false] 23)).alloc (.cells #[.int .i64 2, .int .i64 m, .int .i64 q] 25)).cell? ⟨u3.heap.size + 1, 1, none⟩ = some (.int .i64 m) := KF_22.out.c 1 rfl
  have xF2 : ((u3.alloc (.cells #[.int .i64 c, .int .i64 s, .int .i64 m, .int .i64 y, .int .i64 0, .bool true, .bool false] 23)).alloc (.cells #[.int .i64 2, .int .i64 m, .int .i64 q] 25)).cell? ⟨u3.heap.size + 1, 2, none⟩ = some (.int .i64 q) := KF_22.out.c 2 rfl
  have zF : u3.heap.size + 1 < ((u3.alloc (.cells #[.int .i64 c, .int .i64 s, .int .i64 m, .int .i64 y, .int .i64 0, .bool true, .bool false] 23)).alloc (.cells #[.int .i64 2, .int .i64 m, .int .i64 q] 25)).heap.size := KF_22.out.2.2
  have z2F : u3.heap.size + 1 < ((u3.alloc (.cells #[.int .i64 c, .int .i64 s, .int .i64 m, .int .i64 y, .int .i64 0, .bool true, .bool false] 23)).alloc (.cells #[.int .i64 2, .int .i64 m, .int .i64 q] 25)).heap.size + 1 := by omega
  go_wp2_with fail
  refine (rvalid_at c s m y 0 true false true _ hv2.out).mono ?_
  rintro e u4 ⟨rfl, b4⟩
  clear xP0 xP1 xP2 xP3 xP4 xP5 xP6 zP z2P xQ0 xQ1 xQ2 zQ z2Q xE0 xE1 xE2 xE3 xE4 xE5 xE6 zE z2E xF0 xF1 xF2 zF z2F
  have KP_24 := Lib.hid (KP_19.out.step b4)
  clear KP_19
  have KQ_25 := Lib.hid (KQ_20.out.step b4)
  clear KQ_20
  have KE_26 := Lib.hid (KE_21.out.step b4)
  clear KE_21
  have KF_27 := Lib.hid (KF_22.out.step b4)
  clear KF_22
  have HB28 := Lib.hid (keep2 b4 HB23.out)
  clear HB23 b4
  have xP0 : u4.cell? ⟨w.heap.size, 0, none⟩ = some (.int .i64 c) := KP_24.out.c 0 rfl
  have xP1 : u4.cell? ⟨w.heap.size, 1, none⟩ = some (.int .i64 s) := KP_24.out.c 1 rfl
  have xP2 : u4.cell? ⟨w.heap.size, 2, none⟩ = some (.int .i64 m) := KP_24.out.c 2 rfl
  have xP3 : u4.cell? ⟨w.heap.size, 3, none⟩ = some (.int .i64 o) := KP_24.out.c 3 rfl
  have xP4 : u4.cell? ⟨w.heap.size, 4, none⟩ = some (.int .i64 0) := KP_24.out.c 4 rfl
  have xP5 : u4.cell? ⟨w.heap.size, 5, none⟩ = some (.bool true) := KP_24.out.c 5 rfl
  have xP6 : u4.cell? ⟨w.heap.size, 6, none⟩ = some (.bool false) := KP_24.out.c 6 rfl
  have zP : w.heap.size < u4.heap.size := KP_24.out.2.2
  have z2P : w.heap.size < u4.heap.size + 1 := by omega
  have xQ0 : u4.cell? ⟨w.heap.size + 1, 0, none⟩ = some (.int .i64 1) := KQ_25.out.c 0 rfl
  have xQ1 : u4.cell? ⟨w.heap.size + 1, 1, none⟩ = some (.int .i64 y) := KQ_25.out.c 1 rfl
  have xQ2 : u4.cell? ⟨w.heap.size + 1, 2, none⟩ = some (.int .i64 z) := KQ_25.out.c 2 rfl
  have zQ : w.heap.size + 1 < u4.heap.size := KQ_25.out.2.2
  have z2Q : w.heap.size + 1 < u4.heap.size + 1 := by omega
  have xE0 : u4.cell? ⟨u3.heap.size, 0, none⟩ = some (.int .i64 c) := KE_26.out.c 0 rfl
  have xE1 : u4.cell? ⟨u3.heap.size, 1, none⟩ = some (.int .i64 s) := KE_26.out.c 1 rfl
  have xE2 : u4.cell? ⟨u3.heap.size, 2, none⟩ = some (.int .i64 m) := KE_26.out.c 2 rfl
  have xE3 : u4.cell? ⟨u3.heap.size, 3, none⟩ = some (.int .i64 y) := KE_26.out.c 3 rfl
  have xE4 : u4.cell? ⟨u3.heap.size, 4, none⟩ = some (.int .i64 0) := KE_26.out.c 4 rfl
  have xE5 : u4.cell? ⟨u3.heap.size, 5, none⟩ = some (.bool true) := KE_26.out.c 5 rfl
  have xE6 : u4.cell? ⟨u3.heap.size, 6, none⟩ = some (.bool false) := KE_26.out.c 6 rfl
  have zE : u3.heap.size < u4.heap.size := KE_26.out.2.2
  have z2E : u3.heap.size < u4.heap.size + 1 := by omega
  have xF0 : u4.cell? ⟨u3.heap.size + 1, 0, none⟩ = some (.int .i64 2) := KF_27.out.c 0 rfl
  have xF1 : u4.cell? ⟨u3.heap.size + 1, 1, none⟩ = some (.int .i64 m) := KF_27.out.c 1 rfl
  have xF2 : u4.cell? ⟨u3.heap.size + 1, 2, none⟩ = some (.int .i64 q) := KF_27.out.c 2 rfl
  have zF : u3.heap.size + 1 < u4.heap.size := KF_27.out.2.2
  have z2F : u3.heap.size + 1 < u4.heap.size + 1 := by omega
  go_wp2
  go_ret
  exact ⟨rfl, HB28.out⟩
set_option maxRecDepth 100000 in
set_option maxHeartbeats 4000000 in
theorem sides_agree (c s m o k K y z q : Int) (w : World) (hv : vld s m o k false = true) (hw : RW c s m o k false false 2 y z 0 (jc c s m y K false true) (hc3 3 0 q)) (hv2 : vld s m y K true = true) (hk : K ≠ 0) : Calls Try.prog 7 #[.agg (jc c s m o k false false), .agg (hc3 2 y z)] w fun e w' => e = .returned (.bool true) ∧ Below w.heap.size w w' := by
  replace hv := Lib.hid hv
  replace hw := Lib.hid hw
  replace hv2 := Lib.hid hv2
  have hk1 : (K == 0) = false := by simpa using hk
  have hk2 : (K != 0) = true := by simpa using hk
  have hk3 : decide (K = 0) = false := by simpa using hk
  have HB0 := Lib.hid (Below.refl w.heap.size w)
  go_enter Try.func7, Try.ntmps7
  have KP_1 := Lib.hid (Cs.new w (w.heap.size) #[.int .i64 c, .int .i64 s, .int .i64 m, .int .i64 o, .int .i64 k, .bool false, .bool false] 23 (by simp))
  have HB2 : Hid (Below w.heap.size w (w.alloc (.cells #[.int .i64 c, .int .i64 s, .int .i64 m, .int .i64 o, .int .i64 k, .bool false, .bool false] 23))) := HB0.out.alloc HB0.out.size _
  clear HB0
  have KP_3 := Lib.hid (KP_1.out.alloc (.cells #[.int .i64 2, .int .i64 y, .int .i64 z] 25))
  clear KP_1
  have KQ_4 := Lib.hid (Cs.new (w.alloc (.cells #[.int .i64 c, .int .i64 s, .int .i64 m, .int .i64 o, .int .i64 k, .bool false, .bool false] 23)) (w.heap.size + 1) #[.int .i64 2, .int .i64 y, .int .i64 z] 25 (by simp))
  have HB5 : Hid (Below w.heap.size w ((w.alloc (.cells #[.int .i64 c, .int .i64 s, .int .i64 m, .int .i64 o, .int .i64 k, .bool false, .bool false] 23)).alloc (.cells #[.int .i64 2, .int .i64 y, .int .i64 z] 25))) := HB2.out.alloc HB2.out.size _
  clear HB2
  go_wp2_with fail
  refine (head_any _).mono ?_
  rintro e u1 ⟨rfl, b1⟩
  have KP_6 := Lib.hid (KP_3.out.step b1)
  clear KP_3
  have KQ_7 := Lib.hid (KQ_4.out.step b1)
  clear KQ_4
  have HB8 := Lib.hid (keep2 b1 HB5.out)
  clear HB5 b1
  have xP0 : u1.cell? ⟨w.heap.size, 0, none⟩ = some (.int .i64 c) := KP_6.out.c 0 rfl
  have xP1 : u1.cell? ⟨w.heap.size, 1, none⟩ = some (.int .i64 s) := KP_6.out.c 1 rfl
  have xP2 : u1.cell? ⟨w.heap.size, 2, none⟩ = some (.int .i64 m) := KP_6.out.c 2 rfl
  have xP3 : u1.cell? ⟨w.heap.size, 3, none⟩ = some (.int .i64 o) := KP_6.out.c 3 rfl
  have xP4 : u1.cell? ⟨w.heap.size, 4, none⟩ = some (.int .i64 k) := KP_6.out.c 4 rfl
  have xP5 : u1.cell? ⟨w.heap.size, 5, none⟩ = some (.bool false) := KP_6.out.c 5 rfl
  have xP6 : u1.cell? ⟨w.heap.size, 6, none⟩ = some (.bool false) := KP_6.out.c 6 rfl
  have zP : w.heap.size < u1.heap.size := KP_6.out.2.2
  have z2P : w.heap.size < u1.heap.size + 1 := by omega
  go_wp2_with fail
  refine (rvalid_at c s m o k false false true _ hv.out).mono ?_
  rintro e u2 ⟨rfl, b2⟩
  clear xP0 xP1 xP2 xP3 xP4 xP5 xP6 zP z2P
  have KP_9 := Lib.hid (KP_6.out.step b2)
  clear KP_6
  have KQ_10 := Lib.hid (KQ_7.out.step b2)
  clear KQ_7
  have HB11 := Lib.hid (keep2 b2 HB8.out)
  clear HB8 b2
  have xP0 : u2.cell? ⟨w.heap.size, 0, none⟩ = some (.int .i64 c) := KP_9.out.c 0 rfl
  have xP1 : u2.cell? ⟨w.heap.size, 1, none⟩ = some (.int .i64 s) := KP_9.out.c 1 rfl
  have xP2 : u2.cell? ⟨w.heap.size, 2, none⟩ = some (.int .i64 m) := KP_9.out.c 2 rfl
  have xP3 : u2.cell? ⟨w.heap.size, 3, none⟩ = some (.int .i64 o) := KP_9.out.c 3 rfl
  have xP4 : u2.cell? ⟨w.heap.size, 4, none⟩ = some (.int .i64 k) := KP_9.out.c 4 rfl
  have xP5 : u2.cell? ⟨w.heap.size, 5, none⟩ = some (.bool false) := KP_9.out.c 5 rfl
  have xP6 : u2.cell? ⟨w.heap.size, 6, none⟩ = some (.bool false) := KP_9.out.c 6 rfl
  have zP : w.heap.size < u2.heap.size := KP_9.out.2.2
  have z2P : w.heap.size < u2.heap.size + 1 := by omega
  have xQ0 : u2.cell? ⟨w.heap.size + 1, 0, none⟩ = some (.int .i64 2) := KQ_10.out.c 0 rfl
  have xQ1 : u2.cell? ⟨w.heap.size + 1, 1, none⟩ = some (.int .i64 y) := KQ_10.out.c 1 rfl
  have xQ2 : u2.cell? ⟨w.heap.size + 1, 2, none⟩ = some (.int .i64 z) := KQ_10.out.c 2 rfl
  have zQ : w.heap.size + 1 < u2.heap.size := KQ_10.out.2.2
  have z2Q : w.heap.size + 1 < u2.heap.size + 1 := by omega
  go_wp2_with fail
  refine (recv_is c s m o k false false 2 y z 0 _ _ _ hw.out).mono ?_
  rintro e u3 ⟨rfl, b3⟩
  clear xP0 xP1 xP2 xP3 xP4 xP5 xP6 zP z2P xQ0 xQ1 xQ2 zQ z2Q
  have KP_12 := Lib.hid (KP_9.out.step b3)
  clear KP_9
  have KQ_13 := Lib.hid (KQ_10.out.step b3)
  clear KQ_10
  have HB14 := Lib.hid (keep2 b3 HB11.out)
  clear HB11 b3
  have KP_15 := Lib.hid (KP_12.out.alloc (.cells #[.int .i64 c, .int .i64 s, .int .i64 m, .int .i64 y, .int .i64 K, .bool false, .bool true] 23))
  clear KP_12
  have KQ_16 := Lib.hid (KQ_13.out.alloc (.cells #[.int .i64 c, .int .i64 s, .int .i64 m, .int .i64 y, .int .i64 K, .bool false, .bool true] 23))
  clear KQ_13
  have KE_17 := Lib.hid (Cs.new u3 (u3.heap.size) #[.int .i64 c, .int .i64 s, .int .i64 m, .int .i64 y, .int .i64 K, .bool false, .bool true] 23 (by simp))
  have HB18 : Hid (Below w.heap.size w (u3.alloc (.cells #[.int .i64 c, .int .i64 s, .int .i64 m, .int .i64 y, .int .i64 K, .bool false, .bool true] 23))) := HB14.out.alloc HB14.out.size _
  clear HB14
  have KP_19 := Lib.hid (KP_15.out.alloc (.cells #[.int .i64 3, .int .i64 0, .int .i64 q] 25))
  clear KP_15
  have KQ_20 := Lib.hid (KQ_16.out.alloc (.cells #[.int .i64 3, .int .i64 0, .int .i64 q] 25))
  clear KQ_16
  have KE_21 := Lib.hid (KE_17.out.alloc (.cells #[.int .i64 3, .int .i64 0, .int .i64 q] 25))
  clear KE_17
  have KF_22 := Lib.hid (Cs.new (u3.alloc (.cells #[.int .i64 c, .int .i64 s, .int .i64 m, .int .i64 y, .int .i64 K, .bool false, .bool true] 23)) (u3.heap.size + 1) #[.int .i64 3, .int .i64 0, .int .i64 q] 25 (by simp))
  have HB23 : Hid (Below w.heap.size w ((u3.alloc (.cells #[.int .i64 c, .int .i64 s, .int .i64 m, .int .i64 y, .int .i64 K, .bool false, .bool true] 23)).alloc (.cells #[.int .i64 3, .int .i64 0, .int .i64 q] 25))) := HB18.out.alloc HB18.out.size _
  clear HB18
  have xP0 : ((u3.alloc (.cells #[.int .i64 c, .int .i64 s, .int .i64 m, .int .i64 y, .int .i64 K, .bool false, .bool true] 23)).alloc (.cells #[.int .i64 3, .int .i64 0, .int .i64 q] 25)).cell? ⟨w.heap.size, 0, none⟩ = some (.int .i64 c) := KP_19.out.c 0 rfl
  have xP1 : ((u3.alloc (.cells #[.int .i64 c, .int .i64 s, .int .i64 m, .int .i64 y, .int .i64 K, .bool false, .bool true] 23)).alloc (.cells #[.int .i64 3, .int .i64 0, .int .i64 q] 25)).cell? ⟨w.heap.size, 1, none⟩ = some (.int .i64 s) := KP_19.out.c 1 rfl
  have xP2 : ((u3.alloc (.cells #[.int .i64 c, .int .i64 s, .int .i64 m, .int .i64 y, .int .i64 K, .bool false, .bool true] 23)).alloc (.cells #[.int .i64 3, .int .i64 0, .int .i64 q] 25)).cell? ⟨w.heap.size, 2, none⟩ = some (.int .i64 m) := KP_19.out.c 2 rfl
  have xP3 : ((u3.alloc (.cells #[.int .i64 c, .int .i64 s, .int .i64 m, .int .i64 y, .int .i64 K, .bool false, .bool true] 23)).alloc (.cells #[.int .i64 3, .int .i64 0, .int .i64 q] 25)).cell? ⟨w.heap.size, 3, none⟩ = some (.int .i64 o) := KP_19.out.c 3 rfl
  have xP4 : ((u3.alloc (.cells #[.int .i64 c, .int .i64 s, .int .i64 m, .int .i64 y, .int .i64 K, .bool false, .bool true] 23)).alloc (.cells #[.int .i64 3, .int .i64 0, .int .i64 q] 25)).cell? ⟨w.heap.size, 4, none⟩ = some (.int .i64 k) := KP_19.out.c 4 rfl
  have xP5 : ((u3.alloc (.cells #[.int .i64 c, .int .i64 s, .int .i64 m, .int .i64 y, .int .i64 K, .bool false, .bool true] 23)).alloc (.cells #[.int .i64 3, .int .i64 0, .int .i64 q] 25)).cell? ⟨w.heap.size, 5, none⟩ = some (.bool false) := KP_19.out.c 5 rfl
  have xP6 : ((u3.alloc (.cells #[.int .i64 c, .int .i64 s, .int .i64 m, .int .i64 y, .int .i64 K, .bool false, .bool true] 23)).alloc (.cells #[.int .i64 3, .int .i64 0, .int .i64 q] 25)).cell? ⟨w.heap.size, 6, none⟩ = some (.bool false) := KP_19.out.c 6 rfl
  have zP : w.heap.size < ((u3.alloc (.cells #[.int .i64 c, .int .i64 s, .int .i64 m, .int .i64 y, .int .i64 K, .bool false, .bool true] 23)).alloc (.cells #[.int .i64 3, .int .i64 0, .int .i64 q] 25)).heap.size := KP_19.out.2.2
  have z2P : w.heap.size < ((u3.alloc (.cells #[.int .i64 c, .int .i64 s, .int .i64 m, .int .i64 y, .int .i64 K, .bool false, .bool true] 23)).alloc (.cells #[.int .i64 3, .int .i64 0, .int .i64 q] 25)).heap.size + 1 := by omega
  have xQ0 : ((u3.alloc (.cells #[.int .i64 c, .int .i64 s, .int .i64 m, .int .i64 y, .int .i64 K, .bool false, .bool true] 23)).alloc (.cells #[.int .i64 3, .int .i64 0, .int .i64 q] 25)).cell? ⟨w.heap.size + 1, 0, none⟩ = some (.int .i64 2) := KQ_20.out.c 0 rfl
  have xQ1 : ((u3.alloc (.cells #[.int .i64 c, .int .i64 s, .int .i64 m, .int .i64 y, .int .i64 K, .bool false, .bool true] 23)).alloc (.cells #[.int .i64 3, .int .i64 0, .int .i64 q] 25)).cell? ⟨w.heap.size + 1, 1, none⟩ = some (.int .i64 y) := KQ_20.out.c 1 rfl
  have xQ2 : ((u3.alloc (.cells #[.int .i64 c, .int .i64 s, .int .i64 m, .int .i64 y, .int .i64 K, .bool false, .bool true] 23)).alloc (.cells #[.int .i64 3, .int .i64 0, .int .i64 q] 25)).cell? ⟨w.heap.size + 1, 2, none⟩ = some (.int .i64 z) := KQ_20.out.c 2 rfl
  have zQ : w.heap.size + 1 < ((u3.alloc (.cells #[.int .i64 c, .int .i64 s, .int .i64 m, .int .i64 y, .int .i64 K, .bool false, .bool true] 23)).alloc (.cells #[.int .i64 3, .int .i64 0, .int .i64 q] 25)).heap.size := KQ_20.out.2.2
  have z2Q : w.heap.size + 1 < ((u3.alloc (.cells #[.int .i64 c, .int .i64 s, .int .i64 m, .int .i64 y, .int .i64 K, .bool false, .bool true] 23)).alloc (.cells #[.int .i64 3, .int .i64 0, .int .i64 q] 25)).heap.size + 1 := by omega
  have xE0 : ((u3.alloc (.cells #[.int .i64 c, .int .i64 s, .int .i64 m, .int .i64 y, .int .i64 K, .bool false, .bool true] 23)).alloc (.cells #[.int .i64 3, .int .i64 0, .int .i64 q] 25)).cell? ⟨u3.heap.size, 0, none⟩ = some (.int .i64 c) := KE_21.out.c 0 rfl
  have xE1 : ((u3.alloc (.cells #[.int .i64 c, .int .i64 s, .int .i64 m, .int .i64 y, .int .i64 K, .bool false, .bool true] 23)).alloc (.cells #[.int .i64 3, .int .i64 0, .int .i64 q] 25)).cell? ⟨u3.heap.size, 1, none⟩ = some (.int .i64 s) := KE_21.out.c 1 rfl
  have xE2 : ((u3.alloc (.cells #[.int .i64 c, .int .i64 s, .int .i64 m, .int .i64 y, .int .i64 K, .bool false, .bool true] 23)).alloc (.cells #[.int .i64 3, .int .i64 0, .int .i64 q] 25)).cell? ⟨u3.heap.size, 2, none⟩ = some (.int .i64 m) := KE_21.out.c 2 rfl
  have xE3 : ((u3.alloc (.cells #[.int .i64 c, .int .i64 s, .int .i64 m, .int .i64 y, .int .i64 K, .bool false, .bool true] 23)).alloc (.cells #[.int .i64 3, .int .i64 0, .int .i64 q] 25)).cell? ⟨u3.heap.size, 3, none⟩ = some (.int .i64 y) := KE_21.out.c 3 rfl
  have xE4 : ((u3.alloc (.cells #[.int .i64 c, .int .i64 s, .int .i64 m, .int .i64 y, .int .i64 K, .bool false, .bool true] 23)).alloc (.cells #[.int .i64 3, .int .i64 0, .int .i64 q] 25)).cell? ⟨u3.heap.size, 4, none⟩ = some (.int .i64 K) := KE_21.out.c 4 rfl
  have xE5 : ((u3.alloc (.cells #[.int .i64 c, .int .i64 s, .int .i64 m, .int .i64 y, .int .i64 K, .bool false, .bool true] 23)).alloc (.cells #[.int .i64 3, .int .i64 0, .int .i64 q] 25)).cell? ⟨u3.heap.size, 5, none⟩ = some (.bool false) := KE_21.out.c 5 rfl
  have xE6 : ((u3.alloc (.cells #[.int .i64 c, .int .i64 s, .int .i64 m, .int .i64 y, .int .i64 K, .bool false, .bool true] 23)).alloc (.cells #[.int .i64 3, .int .i64 0, .int .i64 q] 25)).cell? ⟨u3.heap.size, 6, none⟩ = some (.bool true) := KE_21.out.c 6 rfl
  have zE : u3.heap.size < ((u3.alloc (.cells #[.int .i64 c, .int .i64 s, .int .i64 m, .int .i64 y, .int .i64 K, .bool false, .bool true] 23)).alloc (.cells #[.int .i64 3, .int .i64 0, .int .i64 q] 25)).heap.size := KE_21.out.2.2
  have z2E : u3.heap.size < ((u3.alloc (.cells #[.int .i64 c, .int .i64 s, .int .i64 m, .int .i64 y, .int .i64 K, .bool false, .bool true] 23)).alloc (.cells #[.int .i64 3, .int .i64 0, .int .i64 q] 25)).heap.size + 1 := by omega
  have xF0 : ((u3.alloc (.cells #[.int .i64 c, .int .i64 s, .int .i64 m, .int .i64 y, .int .i64 K, .bool false, .bool true] 23)).alloc (.cells #[.int .i64 3, .int .i64 0, .int .i64 q] 25)).cell? ⟨u3.heap.size + 1, 0, none⟩ = some (.int .i64 3) := KF_22.out.c 0 rfl
  have xF1 : ((u3.alloc (.cells #[.int .i64 c, .int .i64 s, .int .i64 m, .int .i64 y, .int .i64 K, .bool false, .bool true] 23)).alloc (.cells #[.int .i64 3, .int .i64 0, .int .i64 q] 25)).cell? ⟨u3.heap.size + 1, 1, none⟩ = some (.int .i64 0) := KF_22.out.c 1 rfl
  have xF2 : ((u3.alloc (.cells #[.int .i64 c, .int .i64 s, .int .i64 m, .int .i64 y, .int .i64 K, .bool false, .bool true] 23)).alloc (.cells #[.int .i64 3, .int .i64 0, .int .i64 q] 25)).cell? ⟨u3.heap.size + 1, 2, none⟩ = some (.int .i64 q) := KF_22.out.c 2 rfl
  have zF : u3.heap.size + 1 < ((u3.alloc (.cells #[.int .i64 c, .int .i64 s, .int .i64 m, .int .i64 y, .int .i64 K, .bool false, .bool true] 23)).alloc (.cells #[.int .i64 3, .int .i64 0, .int .i64 q] 25)).heap.size := KF_22.out.2.2
  have z2F : u3.heap.size + 1 < ((u3.alloc (.cells #[.int .i64 c, .int .i64 s, .int .i64 m, .int .i64 y, .int .i64 K, .bool false, .bool true] 23)).alloc (.cells #[.int .i64 3, .int .i64 0, .int .i64 q] 25)).heap.size + 1 := by omega
  go_wp2_with fail
  refine (rvalid_at c s m y K false true true _ hv2.out).mono ?_
  rintro e u4 ⟨rfl, b4⟩
  clear xP0 xP1 xP2 xP3 xP4 xP5 xP6 zP z2P xQ0 xQ1 xQ2 zQ z2Q xE0 xE1 xE2 xE3 xE4 xE5 xE6 zE z2E xF0 xF1 xF2 zF z2F
  have KP_24 := Lib.hid (KP_19.out.step b4)
  clear KP_19
  have KQ_25 := Lib.hid (KQ_20.out.step b4)
  clear KQ_20
  have KE_26 := Lib.hid (KE_21.out.step b4)
  clear KE_21
  have KF_27 := Lib.hid (KF_22.out.step b4)
  clear KF_22
  have HB28 := Lib.hid (keep2 b4 HB23.out)
  clear HB23 b4
  have xP0 : u4.cell? ⟨w.heap.size, 0, none⟩ = some (.int .i64 c) := KP_24.out.c 0 rfl
  have xP1 : u4.cell? ⟨w.heap.size, 1, none⟩ = some (.int .i64 s) := KP_24.out.c 1 rfl
  have xP2 : u4.cell? ⟨w.heap.size, 2, none⟩ = some (.int .i64 m) := KP_24.out.c 2 rfl
  have xP3 : u4.cell? ⟨w.heap.size, 3, none⟩ = some (.int .i64 o) := KP_24.out.c 3 rfl
  have xP4 : u4.cell? ⟨w.heap.size, 4, none⟩ = some (.int .i64 k) := KP_24.out.c 4 rfl
  have xP5 : u4.cell? ⟨w.heap.size, 5, none⟩ = some (.bool false) := KP_24.out.c 5 rfl
  have xP6 : u4.cell? ⟨w.heap.size, 6, none⟩ = some (.bool false) := KP_24.out.c 6 rfl
  have zP : w.heap.size < u4.heap.size := KP_24.out.2.2
  have z2P : w.heap.size < u4.heap.size + 1 := by omega
  have xQ0 : u4.cell? ⟨w.heap.size + 1, 0, none⟩ = some (.int .i64 2) := KQ_25.out.c 0 rfl
  have xQ1 : u4.cell? ⟨w.heap.size + 1, 1, none⟩ = some (.int .i64 y) := KQ_25.out.c 1 rfl
  have xQ2 : u4.cell? ⟨w.heap.size + 1, 2, none⟩ = some (.int .i64 z) := KQ_25.out.c 2 rfl
  have zQ : w.heap.size + 1 < u4.heap.size := KQ_25.out.2.2
  have z2Q : w.heap.size + 1 < u4.heap.size + 1 := by omega
  have xE0 : u4.cell? ⟨u3.heap.size, 0, none⟩ = some (.int .i64 c) := KE_26.out.c 0 rfl
  have xE1 : u4.cell? ⟨u3.heap.size, 1, none⟩ = some (.int .i64 s) := KE_26.out.c 1 rfl
  have xE2 : u4.cell? ⟨u3.heap.size, 2, none⟩ = some (.int .i64 m) := KE_26.out.c 2 rfl
  have xE3 : u4.cell? ⟨u3.heap.size, 3, none⟩ = some (.int .i64 y) := KE_26.out.c 3 rfl
  have xE4 : u4.cell? ⟨u3.heap.size, 4, none⟩ = some (.int .i64 K) := KE_26.out.c 4 rfl
  have xE5 : u4.cell? ⟨u3.heap.size, 5, none⟩ = some (.bool false) := KE_26.out.c 5 rfl
  have xE6 : u4.cell? ⟨u3.heap.size, 6, none⟩ = some (.bool true) := KE_26.out.c 6 rfl
  have zE : u3.heap.size < u4.heap.size := KE_26.out.2.2
  have z2E : u3.heap.size < u4.heap.size + 1 := by omega
  have xF0 : u4.cell? ⟨u3.heap.size + 1, 0, none⟩ = some (.int .i64 3) := KF_27.out.c 0 rfl
  have xF1 : u4.cell? ⟨u3.heap.size + 1, 1, none⟩ = some (.int .i64 0) := KF_27.out.c 1 rfl
  have xF2 : u4.cell? ⟨u3.heap.size + 1, 2, none⟩ = some (.int .i64 q) := KF_27.out.c 2 rfl
  have zF : u3.heap.size + 1 < u4.heap.size := KF_27.out.2.2
  have z2F : u3.heap.size + 1 < u4.heap.size + 1 := by omega
  go_wp2
  go_ret
  exact ⟨rfl, HB28.out⟩
set_option maxRecDepth 100000 in
set_option maxHeartbeats 4000000 in
theorem sides_fin (c s m o k K y z : Int) (w : World) (hv : vld s m o k false = true) (hw : RW c s m o k true false 3 y z 0 (jc c s m o K true true) (hc3 0 0 0)) (hv2 : vld s m o K true = true) (hk : K ≠ 0) : Calls Try.prog 7 #[.agg (jc c s m o k true false), .agg (hc3 3 y z)] w fun e w' => e = .returned (.bool true) ∧ Below w.heap.size w w' := by
  replace hv := Lib.hid hv
  replace hw := Lib.hid hw
  replace hv2 := Lib.hid hv2
  have hk1 : (K == 0) = false := by simpa using hk
  have hk2 : (K != 0) = true := by simpa using hk
  have hk3 : decide (K = 0) = false := by simpa using hk
  have HB0 := Lib.hid (Below.refl w.heap.size w)
  go_enter Try.func7, Try.ntmps7
  have KP_1 := Lib.hid (Cs.new w (w.heap.size) #[.int .i64 c, .int .i64 s, .int .i64 m, .int .i64 o, .int .i64 k, .bool true, .bool false] 23 (by simp))
  have HB2 : Hid (Below w.heap.size w (w.alloc (.cells #[.int .i64 c, .int .i64 s, .int .i64 m, .int .i64 o, .int .i64 k, .bool true, .bool false] 23))) := HB0.out.alloc HB0.out.size _
  clear HB0
  have KP_3 := Lib.hid (KP_1.out.alloc (.cells #[.int .i64 3, .int .i64 y, .int .i64 z] 25))
  clear KP_1
  have KQ_4 := Lib.hid (Cs.new (w.alloc (.cells #[.int .i64 c, .int .i64 s, .int .i64 m, .int .i64 o, .int .i64 k, .bool true, .bool false] 23)) (w.heap.size + 1) #[.int .i64 3, .int .i64 y, .int .i64 z] 25 (by simp))
  have HB5 : Hid (Below w.heap.size w ((w.alloc (.cells #[.int .i64 c, .int .i64 s, .int .i64 m, .int .i64 o, .int .i64 k, .bool true, .bool false] 23)).alloc (.cells #[.int .i64 3, .int .i64 y, .int .i64 z] 25))) := HB2.out.alloc HB2.out.size _
  clear HB2
  go_wp2_with fail
  refine (head_any _).mono ?_
  rintro e u1 ⟨rfl, b1⟩
  have KP_6 := Lib.hid (KP_3.out.step b1)
  clear KP_3
  have KQ_7 := Lib.hid (KQ_4.out.step b1)
  clear KQ_4
  have HB8 := Lib.hid (keep2 b1 HB5.out)
  clear HB5 b1
  have xP0 : u1.cell? ⟨w.heap.size, 0, none⟩ = some (.int .i64 c) := KP_6.out.c 0 rfl
  have xP1 : u1.cell? ⟨w.heap.size, 1, none⟩ = some (.int .i64 s) := KP_6.out.c 1 rfl
  have xP2 : u1.cell? ⟨w.heap.size, 2, none⟩ = some (.int .i64 m) := KP_6.out.c 2 rfl
  have xP3 : u1.cell? ⟨w.heap.size, 3, none⟩ = some (.int .i64 o) := KP_6.out.c 3 rfl
  have xP4 : u1.cell? ⟨w.heap.size, 4, none⟩ = some (.int .i64 k) := KP_6.out.c 4 rfl
  have xP5 : u1.cell? ⟨w.heap.size, 5, none⟩ = some (.bool true) := KP_6.out.c 5 rfl
  have xP6 : u1.cell? ⟨w.heap.size, 6, none⟩ = some (.bool false) := KP_6.out.c 6 rfl
  have zP : w.heap.size < u1.heap.size := KP_6.out.2.2
  have z2P : w.heap.size < u1.heap.size + 1 := by omega
  go_wp2_with fail
  refine (rvalid_at c s m o k true false true _ hv.out).mono ?_
  rintro e u2 ⟨rfl, b2⟩
  clear xP0 xP1 xP2 xP3 xP4 xP5 xP6 zP z2P
  have KP_9 := Lib.hid (KP_6.out.step b2)
  clear KP_6
  have KQ_10 := Lib.hid (KQ_7.out.step b2)
  clear KQ_7
  have HB11 := Lib.hid (keep2 b2 HB8.out)
  clear HB8 b2
  have xP0 : u2.cell? ⟨w.heap.size, 0, none⟩ = some (.int .i64 c) := KP_9.out.c 0 rfl
  have xP1 : u2.cell? ⟨w.heap.size, 1, none⟩ = some (.int .i64 s) := KP_9.out.c 1 rfl
  have xP2 : u2.cell? ⟨w.heap.size, 2, none⟩ = some (.int .i64 m) := KP_9.out.c 2 rfl
  have xP3 : u2.cell? ⟨w.heap.size, 3, none⟩ = some (.int .i64 o) := KP_9.out.c 3 rfl
  have xP4 : u2.cell? ⟨w.heap.size, 4, none⟩ = some (.int .i64 k) := KP_9.out.c 4 rfl
  have xP5 : u2.cell? ⟨w.heap.size, 5, none⟩ = some (.bool true) := KP_9.out.c 5 rfl
  have xP6 : u2.cell? ⟨w.heap.size, 6, none⟩ = some (.bool false) := KP_9.out.c 6 rfl
  have zP : w.heap.size < u2.heap.size := KP_9.out.2.2
  have z2P : w.heap.size < u2.heap.size + 1 := by omega
  have xQ0 : u2.cell? ⟨w.heap.size + 1, 0, none⟩ = some (.int .i64 3) := KQ_10.out.c 0 rfl
  have xQ1 : u2.cell? ⟨w.heap.size + 1, 1, none⟩ = some (.int .i64 y) := KQ_10.out.c 1 rfl
  have xQ2 : u2.cell? ⟨w.heap.size + 1, 2, none⟩ = some (.int .i64 z) := KQ_10.out.c 2 rfl
  have zQ : w.heap.size + 1 < u2.heap.size := KQ_10.out.2.2
  have z2Q : w.heap.size + 1 < u2.heap.size + 1 := by omega
  go_wp2_with fail
  refine (recv_is c s m o k true false 3 y z 0 _ _ _ hw.out).mono ?_
  rintro e u3 ⟨rfl, b3⟩
  clear xP0 xP1 xP2 xP3 xP4 xP5 xP6 zP z2P xQ0 xQ1 xQ2 zQ z2Q
  have KP_12 := Lib.hid (KP_9.out.step b3)
  clear KP_9
  have KQ_13 := Lib.hid (KQ_10.out.step b3)
  clear KQ_10
  have HB14 := Lib.hid (keep2 b3 HB11.out)
  clear HB11 b3
  have KP_15 := Lib.hid (KP_12.out.alloc (.cells #[.int .i64 c, .int .i64 s, .int .i64 m, .int .i64 o, .int .i64 K, .bool true, .bool true] 23))
  clear KP_12
  have KQ_16 := Lib.hid (KQ_13.out.alloc (.cells #[.int .i64 c, .int .i64 s, .int .i64 m, .int .i64 o, .int .i64 K, .bool true, .bool true] 23))
  clear KQ_13
  have KE_17 := Lib.hid (Cs.new u3 (u3.heap.size) #[.int .i64 c, .int .i64 s, .int .i64 m, .int .i64 o, .int .i64 K, .bool true, .bool true] 23 (by simp))
  have HB18 : Hid (Below w.heap.size w (u3.alloc (.cells #[.int .i64 c, .int .i64 s, .int .i64 m, .int .i64 o, .int .i64 K, .bool true, .bool true] 23))) := HB14.out.alloc HB14.out.size _
  clear HB14
  have KP_19 := Lib.hid (KP_15.out.alloc (.cells #[.int .i64 0, .int .i64 0, .int .i64 0] 25))
  clear KP_15
  have KQ_20 := Lib.hid (KQ_16.out.alloc (.cells #[.int .i64 0, .int .i64 0, .int .i64 0] 25))
  clear KQ_16
  have KE_21 := Lib.hid (KE_17.out.alloc (.cells #[.int .i64 0, .int .i64 0, .int .i64 0] 25))
  clear KE_17
  have KF_22 := Lib.hid (Cs.new (u3.alloc (.cells #[.int .i64 c, .int .i64 s, .int .i64 m, .int .i64 o, .int .i64 K, .bool true, .bool true] 23)) (u3.heap.size + 1) #[.int .i64 0, .int .i64 0, .int .i64 0] 25 (by simp))
  have HB23 : Hid (Below w.heap.size w ((u3.alloc (.cells #[.int .i64 c, .int .i64 s, .int .i64 m, .int .i64 o, .int .i64 K, .bool true, .bool true] 23)).alloc (.cells #[.int .i64 0, .int .i64 0, .int .i64 0] 25))) := HB18.out.alloc HB18.out.size _
  clear HB18
  have xP0 : ((u3.alloc (.cells #[.int .i64 c, .int .i64 s, .int .i64 m, .int .i64 o, .int .i64 K, .bool true, .bool true] 23)).alloc (.cells #[.int .i64 0, .int .i64 0, .int .i64 0] 25)).cell? ⟨w.heap.size, 0, none⟩ = some (.int .i64 c) := KP_19.out.c 0 rfl
  have xP1 : ((u3.alloc (.cells #[.int .i64 c, .int .i64 s, .int .i64 m, .int .i64 o, .int .i64 K, .bool true, .bool true] 23)).alloc (.cells #[.int .i64 0, .int .i64 0, .int .i64 0] 25)).cell? ⟨w.heap.size, 1, none⟩ = some (.int .i64 s) := KP_19.out.c 1 rfl
  have xP2 : ((u3.alloc (.cells #[.int .i64 c, .int .i64 s, .int .i64 m, .int .i64 o, .int .i64 K, .bool true, .bool true] 23)).alloc (.cells #[.int .i64 0, .int .i64 0, .int .i64 0] 25)).cell? ⟨w.heap.size, 2, none⟩ = some (.int .i64 m) := KP_19.out.c 2 rfl
  have xP3 : ((u3.alloc (.cells #[.int .i64 c, .int .i64 s, .int .i64 m, .int .i64 o, .int .i64 K, .bool true, .bool true] 23)).alloc (.cells #[.int .i64 0, .int .i64 0, .int .i64 0] 25)).cell? ⟨w.heap.size, 3, none⟩ = some (.int .i64 o) := KP_19.out.c 3 rfl
  have xP4 : ((u3.alloc (.cells #[.int .i64 c, .int .i64 s, .int .i64 m, .int .i64 o, .int .i64 K, .bool true, .bool true] 23)).alloc (.cells #[.int .i64 0, .int .i64 0, .int .i64 0] 25)).cell? ⟨w.heap.size, 4, none⟩ = some (.int .i64 k) := KP_19.out.c 4 rfl
  have xP5 : ((u3.alloc (.cells #[.int .i64 c, .int .i64 s, .int .i64 m, .int .i64 o, .int .i64 K, .bool true, .bool true] 23)).alloc (.cells #[.int .i64 0, .int .i64 0, .int .i64 0] 25)).cell? ⟨w.heap.size, 5, none⟩ = some (.bool true) := KP_19.out.c 5 rfl
  have xP6 : ((u3.alloc (.cells #[.int .i64 c, .int .i64 s, .int .i64 m, .int .i64 o, .int .i64 K, .bool true, .bool true] 23)).alloc (.cells #[.int .i64 0, .int .i64 0, .int .i64 0] 25)).cell? ⟨w.heap.size, 6, none⟩ = some (.bool false) := KP_19.out.c 6 rfl
  have zP : w.heap.size < ((u3.alloc (.cells #[.int .i64 c, .int .i64 s, .int .i64 m, .int .i64 o, .int .i64 K, .bool true, .bool true] 23)).alloc (.cells #[.int .i64 0, .int .i64 0, .int .i64 0] 25)).heap.size := KP_19.out.2.2
  have z2P : w.heap.size < ((u3.alloc (.cells #[.int .i64 c, .int .i64 s, .int .i64 m, .int .i64 o, .int .i64 K, .bool true, .bool true] 23)).alloc (.cells #[.int .i64 0, .int .i64 0, .int .i64 0] 25)).heap.size + 1 := by omega
  have xQ0 : ((u3.alloc (.cells #[.int .i64 c, .int .i64 s, .int .i64 m, .int .i64 o, .int .i64 K, .bool true, .bool true] 23)).alloc (.cells #[.int .i64 0, .int .i64 0, .int .i64 0] 25)).cell? ⟨w.heap.size + 1, 0, none⟩ = some (.int .i64 3) := KQ_20.out.c 0 rfl
  have xQ1 : ((u3.alloc (.cells #[.int .i64 c, .int .i64 s, .int .i64 m, .int .i64 o, .int .i64 K, .bool true, .bool true] 23)).alloc (.cells #[.int .i64 0, .int .i64 0, .int .i64 0] 25)).cell? ⟨w.heap.size + 1, 1, none⟩ = some (.int .i64 y) := KQ_20.out.c 1 rfl
  have xQ2 : ((u3.alloc (.cells #[.int .i64 c, .int .i64 s, .int .i64 m, .int .i64 o, .int .i64 K, .bool true, .bool true] 23)).alloc (.cells #[.int .i64 0, .int .i64 0, .int .i64 0] 25)).cell? ⟨w.heap.size + 1, 2, none⟩ = some (.int .i64 z) := KQ_20.out.c 2 rfl
  have zQ : w.heap.size + 1 < ((u3.alloc (.cells #[.int .i64 c, .int .i64 s, .int .i64 m, .int .i64 o, .int .i64 K, .bool true, .bool true] 23)).alloc (.cells #[.int .i64 0, .int .i64 0, .int .i64 0] 25)).heap.size := KQ_20.out.2.2
  have z2Q : w.heap.size + 1 < ((u3.alloc (.cells #[.int .i64 c, .int .i64 s, .int .i64 m, .int .i64 o, .int .i64 K, .bool true, .bool true] 23)).alloc (.cells #[.int .i64 0, .int .i64 0, .int .i64 0] 25)).heap.size + 1 := by omega
  have xE0 : ((u3.alloc (.cells #[.int .i64 c, .int .i64 s, .int .i64 m, .int .i64 o, .int .i64 K, .bool true, .bool true] 23)).alloc (.cells #[.int .i64 0, .int .i64 0, .int .i64 0] 25)).cell? ⟨u3.heap.size, 0, none⟩ = some (.int .i64 c) := KE_21.out.c 0 rfl
  have xE1 : ((u3.alloc (.cells #[.int .i64 c, .int .i64 s, .int .i64 m, .int .i64 o, .int .i64 K, .bool true, .bool true] 23)).alloc (.cells #[.int .i64 0, .int .i64 0, .int .i64 0] 25)).cell? ⟨u3.heap.size, 1, none⟩ = some (.int .i64 s) := KE_21.out.c 1 rfl
  have xE2 : ((u3.alloc (.cells #[.int .i64 c, .int .i64 s, .int .i64 m, .int .i64 o, .int .i64 K, .bool true, .bool true] 23)).alloc (.cells #[.int .i64 0, .int .i64 0, .int .i64 0] 25)).cell? ⟨u3.heap.size, 2, none⟩ = some (.int .i64 m) := KE_21.out.c 2 rfl
  have xE3 : ((u3.alloc (.cells #[.int .i64 c, .int .i64 s, .int .i64 m, .int .i64 o, .int .i64 K, .bool true, .bool true] 23)).alloc (.cells #[.int .i64 0, .int .i64 0, .int .i64 0] 25)).cell? ⟨u3.heap.size, 3, none⟩ = some (.int .i64 o) := KE_21.out.c 3 rfl
  have xE4 : ((u3.alloc (.cells #[.int .i64 c, .int .i64 s, .int .i64 m, .int .i64 o, .int .i64 K, .bool true, .bool true] 23)).alloc (.cells #[.int .i64 0, .int .i64 0, .int .i64 0] 25)).cell? ⟨u3.heap.size, 4, none⟩ = some (.int .i64 K) := KE_21.out.c 4 rfl
  have xE5 : ((u3.alloc (.cells #[.int .i64 c, .int .i64 s, .int .i64 m, .int .i64 o, .int .i64 K, .bool true, .bool true] 23)).alloc (.cells #[.int .i64 0, .int .i64 0, .int .i64 0] 25)).cell? ⟨u3.heap.size, 5, none⟩ = some (.bool true) := KE_21.out.c 5 rfl
  have xE6 : ((u3.alloc (.cells #[.int .i64 c, .int .i64 s, .int .i64 m, .int .i64 o, .int .i64 K, .bool true, .bool true] 23)).alloc (.cells #[.int .i64 0, .int .i64 0, .int .i64 0] 25)).cell? ⟨u3.heap.size, 6, none⟩ = some (.bool true) := KE_21.out.c 6 rfl
  have zE : u3.heap.size < ((u3.alloc (.cells #[.int .i64 c, .int .i64 s, .int .i64 m, .int .i64 o, .int .i64 K, .bool true, .bool true] 23)).alloc (.cells #[.int .i64 0, .int .i64 0, .int .i64 0] 25)).heap.size := KE_21.out.2.2
  have z2E : u3.heap.size < ((u3.alloc (.cells #[.int .i64 c, .int .i64 s, .int .i64 m, .int .i64 o, .int .i64 K, .bool true, .bool true] 23)).alloc (.cells #[.int .i64 0, .int .i64 0, .int .i64 0] 25)).heap.size + 1 := by omega
  have xF0 : ((u3.alloc (.cells #[.int .i64 c, .int .i64 s, .int .i64 m, .int .i64 o, .int .i64 K, .bool true, .bool true] 23)).alloc (.cells #[.int .i64 0, .int .i64 0, .int .i64 0] 25)).cell? ⟨u3.heap.size + 1, 0, none⟩ = some (.int .i64 0) := KF_22.out.c 0 rfl
  have xF1 : ((u3.alloc (.cells #[.int .i64 c, .int .i64 s, .int .i64 m, .int .i64 o, .int .i64 K, .bool true, .bool true] 23)).alloc (.cells #[.int .i64 0, .int .i64 0, .int .i64 0] 25)).cell? ⟨u3.heap.size + 1, 1, none⟩ = some (.int .i64 0) := KF_22.out.c 1 rfl
  have xF2 : ((u3.alloc (.cells #[.int .i64 c, .int .i64 s, .int .i64 m, .int .i64 o, .int .i64 K, .bool true, .bool true] 23)).alloc (.cells #[.int .i64 0, .int .i64 0, .int .i64 0] 25)).cell? ⟨u3.heap.size + 1, 2, none⟩ = some (.int .i64 0) := KF_22.out.c 2 rfl
  have zF : u3.heap.size + 1 < ((u3.alloc (.cells #[.int .i64 c, .int .i64 s, .int .i64 m, .int .i64 o, .int .i64 K, .bool true, .bool true] 23)).alloc (.cells #[.int .i64 0, .int .i64 0, .int .i64 0] 25)).heap.size := KF_22.out.2.2
  have z2F : u3.heap.size + 1 < ((u3.alloc (.cells #[.int .i64 c, .int .i64 s, .int .i64 m, .int .i64 o, .int .i64 K, .bool true, .bool true] 23)).alloc (.cells #[.int .i64 0, .int .i64 0, .int .i64 0] 25)).heap.size + 1 := by omega
  go_wp2_with fail
  refine (rvalid_at c s m o K true true true _ hv2.out).mono ?_
  rintro e u4 ⟨rfl, b4⟩
  clear xP0 xP1 xP2 xP3 xP4 xP5 xP6 zP z2P xQ0 xQ1 xQ2 zQ z2Q xE0 xE1 xE2 xE3 xE4 xE5 xE6 zE z2E xF0 xF1 xF2 zF z2F
  have KP_24 := Lib.hid (KP_19.out.step b4)
  clear KP_19
  have KQ_25 := Lib.hid (KQ_20.out.step b4)
  clear KQ_20
  have KE_26 := Lib.hid (KE_21.out.step b4)
  clear KE_21
  have KF_27 := Lib.hid (KF_22.out.step b4)
  clear KF_22
  have HB28 := Lib.hid (keep2 b4 HB23.out)
  clear HB23 b4
  have xP0 : u4.cell? ⟨w.heap.size, 0, none⟩ = some (.int .i64 c) := KP_24.out.c 0 rfl
  have xP1 : u4.cell? ⟨w.heap.size, 1, none⟩ = some (.int .i64 s) := KP_24.out.c 1 rfl
  have xP2 : u4.cell? ⟨w.heap.size, 2, none⟩ = some (.int .i64 m) := KP_24.out.c 2 rfl
  have xP3 : u4.cell? ⟨w.heap.size, 3, none⟩ = some (.int .i64 o) := KP_24.out.c 3 rfl
  have xP4 : u4.cell? ⟨w.heap.size, 4, none⟩ = some (.int .i64 k) := KP_24.out.c 4 rfl
  have xP5 : u4.cell? ⟨w.heap.size, 5, none⟩ = some (.bool true) := KP_24.out.c 5 rfl
  have xP6 : u4.cell? ⟨w.heap.size, 6, none⟩ = some (.bool false) := KP_24.out.c 6 rfl
  have zP : w.heap.size < u4.heap.size := KP_24.out.2.2
  have z2P : w.heap.size < u4.heap.size + 1 := by omega
  have xQ0 : u4.cell? ⟨w.heap.size + 1, 0, none⟩ = some (.int .i64 3) := KQ_25.out.c 0 rfl
  have xQ1 : u4.cell? ⟨w.heap.size + 1, 1, none⟩ = some (.int .i64 y) := KQ_25.out.c 1 rfl
  have xQ2 : u4.cell? ⟨w.heap.size + 1, 2, none⟩ = some (.int .i64 z) := KQ_25.out.c 2 rfl
  have zQ : w.heap.size + 1 < u4.heap.size := KQ_25.out.2.2
  have z2Q : w.heap.size + 1 < u4.heap.size + 1 := by omega
  have xE0 : u4.cell? ⟨u3.heap.size, 0, none⟩ = some (.int .i64 c) := KE_26.out.c 0 rfl
  have xE1 : u4.cell? ⟨u3.heap.size, 1, none⟩ = some (.int .i64 s) := KE_26.out.c 1 rfl
  have xE2 : u4.cell? ⟨u3.heap.size, 2, none⟩ = some (.int .i64 m) := KE_26.out.c 2 rfl
  have xE3 : u4.cell? ⟨u3.heap.size, 3, none⟩ = some (.int .i64 o) := KE_26.out.c 3 rfl
  have xE4 : u4.cell? ⟨u3.heap.size, 4, none⟩ = some (.int .i64 K) := KE_26.out.c 4 rfl
  have xE5 : u4.cell? ⟨u3.heap.size, 5, none⟩ = some (.bool true) := KE_26.out.c 5 rfl
  have xE6 : u4.cell? ⟨u3.heap.size, 6, none⟩ = some (.bool true) := KE_26.out.c 6 rfl
  have zE : u3.heap.size < u4.heap.size := KE_26.out.2.2
  have z2E : u3.heap.size < u4.heap.size + 1 := by omega
  have xF0 : u4.cell? ⟨u3.heap.size + 1, 0, none⟩ = some (.int .i64 0) := KF_27.out.c 0 rfl
  have xF1 : u4.cell? ⟨u3.heap.size + 1, 1, none⟩ = some (.int .i64 0) := KF_27.out.c 1 rfl
  have xF2 : u4.cell? ⟨u3.heap.size + 1, 2, none⟩ = some (.int .i64 0) := KF_27.out.c 2 rfl
  have zF : u3.heap.size + 1 < u4.heap.size := KF_27.out.2.2
  have z2F : u3.heap.size + 1 < u4.heap.size + 1 := by omega
  go_wp2
  go_ret
  exact ⟨rfl, HB28.out⟩
theorem sides_any (c s m o k : Int) (h d : Bool) (x y z : Int) (w : World) : Calls Try.prog 7 #[.agg (jc c s m o k h d), .agg (hc3 x y z)] w fun e w' => e = .returned (.bool true) ∧ Below w.heap.size w w' := by
  obtain ⟨er, J, H, hw⟩ := rw_total c s m o k h d x y z
  have hw0 := hw
  cases hw with
  | arg hv => exact sides_no c s m o k h d x y z w hv
  | done hv hd => subst hd; exact sides_28_true c s m o k h x y z w hv hw0
  | dev hv hd hh hx => subst hd; exact sides_28_false c s m o k h x y z w hv hw0
  | hub hv hd hh hx hx3 => subst hd; exact sides_28_false c s m o k h x y z w hv hw0
  | hub3 hv hd hh hx ho => subst hd; exact sides_28_false c s m o k h x y z w hv hw0
  | meetNo hv hd hh hx ha => subst hd; exact sides_1_false c s m o k h x y z w hv hw0
  | agreeNo hv hd hh hx ha => subst hd; exact sides_1_false c s m o k h x y z w hv hw0
  | agreeBad hv hd hh hx ha hz => subst hd; exact sides_17_false c s m o k h x y z w hv hw0
  | finBad hv hd hh hx ho hz => subst hd; exact sides_17_false c s m o k h x y z w hv hw0
  | meet hv hd hh hx ha =>
    subst hd hh hx
    obtain rfl := vld_zero hv
    exact sides_meet c s m o y z _ w hv hw0 (vld_met (vld_mine hv) ha)
  | agree hv hd hh hx ha hz =>
    subst hd hh hx
    exact sides_agree c s m o k _ y z _ w hv hw0 (vld_done (vld_mine hv) ha) (pw_acc _ _ ha)
  | fin hv hd hh hx ho hz =>
    subst hd hh hx
    exact sides_fin c s m o k _ y z w hv hw0 (vld_done (vld_mine hv) (vld_other hv ho)) (pw_acc _ _ (vld_other hv ho))
end Go.Proofs.Ytoggmladiakblaa
