/- The contract of the reference's 'Receive'. -/
import Derived.Test.YtoggmladiakblaaJh
namespace Go.Proofs.Ytoggmladiakblaa
open Go.RowKit

theorem rvalid_at (c s m o k : Int) (h d : Bool) (v : Bool) (w : World) (hv : vld s m o k d = v) : Calls Try.prog 21 #[.agg (jc c s m o k h d)] w fun e w' => e = .returned (.bool v) ∧ Below w.heap.size w w' := by
  have := rvalid_any c s m o k h d w; rwa [hv] at this
theorem expects_at (c s m o k : Int) (h d : Bool) (x : Int) (v : Bool) (w : World) (hv : expB x o h d = v) : Calls Try.prog 28 #[.agg (jc c s m o k h d), .int .i64 x] w fun e w' => e = .returned (.bool v) ∧ Below w.heap.size w w' := by
  have := expects_any c s m o k h d x w; rwa [hv] at this
theorem racc_at (n : Int) (b : Bool) (w : World) (hb : accB n = b) : Calls Try.prog 16 #[.int .i64 n] w fun e w' => e = .returned (.bool b) ∧ w = w' := (racc_any n w).mono fun _ _ h => ⟨by rw [h.1, hb], h.2⟩
set_option maxRecDepth 100000 in
set_option maxHeartbeats 8000000 in
theorem rrecv_arg (c s m o k : Int) (h d : Bool) (x y z : Int) (w : World) (hv : vld s m o k d = false) : Calls Try.prog 13 #[.agg (jc c s m o k h d), .agg (hc3 x y z)] w (RecvPost zj zh 1 w) := by
  have HV := Lib.hid hv
  have KS := Lib.hid ((((Cs.new w (w.heap.size) (jc c s m o k h d) 23 (by simp)).alloc (.cells (hc3 x y z) 25)).alloc (.cells zj 23)).alloc (.cells zh 25))
  have KH := Lib.hid (((Cs.new (w.alloc (.cells (jc c s m o k h d) 23)) (w.heap.size + 1) (hc3 x y z) 25 (by simp)).alloc (.cells zj 23)).alloc (.cells zh 25))
  have KJ := Lib.hid ((Cs.new ((w.alloc (.cells (jc c s m o k h d) 23)).alloc (.cells (hc3 x y z) 25)) (w.heap.size + 1 + 1) zj 23 (by simp)).alloc (.cells zh 25))
  have KR := Lib.hid (Cs.new (((w.alloc (.cells (jc c s m o k h d) 23)).alloc (.cells (hc3 x y z) 25)).alloc (.cells zj 23)) (w.heap.size + 1 + 1 + 1) zh 25 (by simp))
  have HB0 := Lib.hid (show Below w.heap.size w ((((w.alloc (.cells (jc c s m o k h d) 23)).alloc (.cells (hc3 x y z) 25)).alloc (.cells zj 23)).alloc (.cells zh 25)) from (by repeat (first | with_reducible exact Below.refl _ _ | with_reducible exact Below.refl _ _ | ((with_reducible refine Below.setCell ?_ ?_ _); rotate_left; focus (first | (simp; done) | (simp; omega) | omega)) | ((with_reducible refine Below.alloc ?_ ?_ _); rotate_left; focus (first | (simp; done) | (simp; omega) | omega)) | with_reducible refine Below.trans ?_ (below_drewN' _ _ _) | with_reducible refine Below.trans ?_ (below_drew _ _))))
  clear hv
  go_enter Try.func13, Try.ntmps13
  go_wp2_with fail
  refine (rvalid_at c s m o k h d false _ HV.out).mono ?_
  rintro e w1 ⟨rfl, b1⟩
  have KS1 := Lib.hid (KS.out.step b1)
  have KH1 := Lib.hid (KH.out.step b1)
  have KJ1 := Lib.hid (KJ.out.step b1)
  have KR1 := Lib.hid (KR.out.step b1)
  have HB1x := Lib.hid (HB0.out.trans (b1.mono (by simp; omega)))
  clear b1 KS KH KJ KR HB0
  have KJ1c0 : w1.cell? ⟨w.heap.size + 1 + 1, 0, none⟩ = some (.int .i64 0) := KJ1.out.c 0 rfl
  have KJ1f0 : w1.frozen? ⟨w.heap.size + 1 + 1, 0, none⟩ = false := KJ1.out.f 0 (by simp)
  have KJ1c1 : w1.cell? ⟨w.heap.size + 1 + 1, 1, none⟩ = some (.int .i64 0) := KJ1.out.c 1 rfl
  have KJ1f1 : w1.frozen? ⟨w.heap.size + 1 + 1, 1, none⟩ = false := KJ1.out.f 1 (by simp)
  have KJ1c2 : w1.cell? ⟨w.heap.size + 1 + 1, 2, none⟩ = some (.int .i64 0) := KJ1.out.c 2 rfl
  have KJ1f2 : w1.frozen? ⟨w.heap.size + 1 + 1, 2, none⟩ = false := KJ1.out.f 2 (by simp)
  have KJ1c3 : w1.cell? ⟨w.heap.size + 1 + 1, 3, none⟩ = some (.int .i64 0) := KJ1.out.c 3 rfl
  have KJ1f3 : w1.frozen? ⟨w.heap.size + 1 + 1, 3, none⟩ = false := KJ1.out.f 3 (by simp)
  have KJ1c4 : w1.cell? ⟨w.heap.size + 1 + 1, 4, none⟩ = some (.int .i64 0) := KJ1.out.c 4 rfl
  have KJ1f4 : w1.frozen? ⟨w.heap.size + 1 + 1, 4, none⟩ = false := KJ1.out.f 4 (by simp)
  have KJ1c5 : w1.cell? ⟨w.heap.size + 1 + 1, 5, none⟩ = some (.bool false) := KJ1.out.c 5 rfl
  have KJ1f5 : w1.frozen? ⟨w.heap.size + 1 + 1, 5, none⟩ = false := KJ1.out.f 5 (by simp)
  have KJ1c6 : w1.cell? ⟨w.heap.size + 1 + 1, 6, none⟩ = some (.bool false) := KJ1.out.c 6 rfl
  have KJ1f6 : w1.frozen? ⟨w.heap.size + 1 + 1, 6, none⟩ = false := KJ1.out.f 6 (by simp)
  have KR1c0 : w1.cell? ⟨w.heap.size + 1 + 1 + 1, 0, none⟩ = some (.int .i64 0) := KR1.out.c 0 rfl
  have KR1f0 : w1.frozen? ⟨w.heap.size + 1 + 1 + 1, 0, none⟩ = false := KR1.out.f 0 (by simp)
  have KR1c1 : w1.cell? ⟨w.heap.size + 1 + 1 + 1, 1, none⟩ = some (.int .i64 0) := KR1.out.c 1 rfl
  have KR1f1 : w1.frozen? ⟨w.heap.size + 1 + 1 + 1, 1, none⟩ = false := KR1.out.f 1 (by simp)
  have KR1c2 : w1.cell? ⟨w.heap.size + 1 + 1 + 1, 2, none⟩ = some (.int .i64 0) := KR1.out.c 2 rfl
  have KR1f2 : w1.frozen? ⟨w.heap.size + 1 + 1 + 1, 2, none⟩ = false := KR1.out.f 2 (by simp)
  go_wp2
  exact bodyPost_ret (v := .tuple #[.agg zj, .agg zh, .int .i64 1]) (by simp [results, Try.results13, go_sem, KJ1c0, KJ1c1, KJ1c2, KJ1c3, KJ1c4, KJ1c5, KJ1c6, KR1c0, KR1c1, KR1c2]) rfl (RecvPost.mk (by repeat (first | with_reducible exact HB1x.out | with_reducible exact Below.refl _ _ | ((with_reducible refine Below.setCell ?_ ?_ _); rotate_left; focus (first | (simp; done) | (simp; omega) | omega)) | ((with_reducible refine Below.alloc ?_ ?_ _); rotate_left; focus (first | (simp; done) | (simp; omega) | omega)) | with_reducible refine Below.trans ?_ (below_drewN' _ _ _) | with_reducible refine Below.trans ?_ (below_drew _ _))))
set_option maxRecDepth 100000 in
set_option maxHeartbeats 8000000 in
theorem rrecv_done (c s m o k : Int) (h : Bool) (x y z : Int) (w : World) (hv : vld s m o k true = true)  : Calls Try.prog 13 #[.agg (jc c s m o k h true), .agg (hc3 x y z)] w (RecvPost zj zh 28 w) := by
  have HV := Lib.hid hv
  have KS := Lib.hid ((((Cs.new w (w.heap.size) (jc c s m o k h true) 23 (by simp)).alloc (.cells (hc3 x y z) 25)).alloc (.cells zj 23)).alloc (.cells zh 25))
  have KH := Lib.hid (((Cs.new (w.alloc (.cells (jc c s m o k h true) 23)) (w.heap.size + 1) (hc3 x y z) 25 (by simp)).alloc (.cells zj 23)).alloc (.cells zh 25))
  have KJ := Lib.hid ((Cs.new ((w.alloc (.cells (jc c s m o k h true) 23)).alloc (.cells (hc3 x y z) 25)) (w.heap.size + 1 + 1) zj 23 (by simp)).alloc (.cells zh 25))
  have KR := Lib.hid (Cs.new (((w.alloc (.cells (jc c s m o k h true) 23)).alloc (.cells (hc3 x y z) 25)).alloc (.cells zj 23)) (w.heap.size + 1 + 1 + 1) zh 25 (by simp))
  have HB0 := Lib.hid (show Below w.heap.size w ((((w.alloc (.cells (jc c s m o k h true) 23)).alloc (.cells (hc3 x y z) 25)).alloc (.cells zj 23)).alloc (.cells zh 25)) from (by repeat (first | with_reducible exact Below.refl _ _ | with_reducible exact Below.refl _ _ | ((with_reducible refine Below.setCell ?_ ?_ _); rotate_left; focus (first | (simp; done) | (simp; omega) | omega)) | ((with_reducible refine Below.alloc ?_ ?_ _); rotate_left; focus (first | (simp; done) | (simp; omega) | omega)) | with_reducible refine Below.trans ?_ (below_drewN' _ _ _) | with_reducible refine Below.trans ?_ (below_drew _ _))))
  clear hv
  go_enter Try.func13, Try.ntmps13
  go_wp2_with fail
  refine (rvalid_at c s m o k h true true _ HV.out).mono ?_
  rintro e w1 ⟨rfl, b1⟩
  have KS1 := Lib.hid (KS.out.step b1)
  have KH1 := Lib.hid (KH.out.step b1)
  have KJ1 := Lib.hid (KJ.out.step b1)
  have KR1 := Lib.hid (KR.out.step b1)
  have HB1x := Lib.hid (HB0.out.trans (b1.mono (by simp; omega)))
  clear b1 KS KH KJ KR HB0
  have lt0w1 : w.heap.size < w1.heap.size := KS1.out.2.2
  have lt1w1 : w.heap.size + 1 < w1.heap.size := KH1.out.2.2
  have lt2w1 : w.heap.size + 1 + 1 < w1.heap.size := KJ1.out.2.2
  have lt3w1 : w.heap.size + 1 + 1 + 1 < w1.heap.size := KR1.out.2.2
  have KS1c0 : w1.cell? ⟨w.heap.size, 0, none⟩ = some (.int .i64 c) := KS1.out.c 0 rfl
  have KS1c1 : w1.cell? ⟨w.heap.size, 1, none⟩ = some (.int .i64 s) := KS1.out.c 1 rfl
  have KS1c2 : w1.cell? ⟨w.heap.size, 2, none⟩ = some (.int .i64 m) := KS1.out.c 2 rfl
  have KS1c3 : w1.cell? ⟨w.heap.size, 3, none⟩ = some (.int .i64 o) := KS1.out.c 3 rfl
  have KS1c4 : w1.cell? ⟨w.heap.size, 4, none⟩ = some (.int .i64 k) := KS1.out.c 4 rfl
  have KS1c5 : w1.cell? ⟨w.heap.size, 5, none⟩ = some (.bool h) := KS1.out.c 5 rfl
  have KS1c6 : w1.cell? ⟨w.heap.size, 6, none⟩ = some (.bool true) := KS1.out.c 6 rfl
  have KH1c0 : w1.cell? ⟨w.heap.size + 1, 0, none⟩ = some (.int .i64 x) := KH1.out.c 0 rfl
  have KH1c1 : w1.cell? ⟨w.heap.size + 1, 1, none⟩ = some (.int .i64 y) := KH1.out.c 1 rfl
  have KH1c2 : w1.cell? ⟨w.heap.size + 1, 2, none⟩ = some (.int .i64 z) := KH1.out.c 2 rfl
  go_wp2_with fail
  refine (expects_at c s m o k h true x false _ (rfl)).mono ?_
  rintro e w2 ⟨rfl, b2⟩
  clear KS1c0 KS1c1 KS1c2 KS1c3 KS1c4 KS1c5 KS1c6 KH1c0 KH1c1 KH1c2 lt0w1 lt1w1 lt2w1 lt3w1
  have KS2 := Lib.hid (KS1.out.step b2)
  have KH2 := Lib.hid (KH1.out.step b2)
  have KJ2 := Lib.hid (KJ1.out.step b2)
  have KR2 := Lib.hid (KR1.out.step b2)
  have HB2x := Lib.hid (keep2 b2 HB1x.out)
  clear b2 KS1 KH1 KJ1 KR1 HB1x
  have lt0w2 : w.heap.size < w2.heap.size := KS2.out.2.2
  have lt1w2 : w.heap.size + 1 < w2.heap.size := KH2.out.2.2
  have lt2w2 : w.heap.size + 1 + 1 < w2.heap.size := KJ2.out.2.2
  have lt3w2 : w.heap.size + 1 + 1 + 1 < w2.heap.size := KR2.out.2.2
  have KJ2c0 : w2.cell? ⟨w.heap.size + 1 + 1, 0, none⟩ = some (.int .i64 0) := KJ2.out.c 0 rfl
  have KJ2f0 : w2.frozen? ⟨w.heap.size + 1 + 1, 0, none⟩ = false := KJ2.out.f 0 (by simp)
  have KJ2c1 : w2.cell? ⟨w.heap.size + 1 + 1, 1, none⟩ = some (.int .i64 0) := KJ2.out.c 1 rfl
  have KJ2f1 : w2.frozen? ⟨w.heap.size + 1 + 1, 1, none⟩ = false := KJ2.out.f 1 (by simp)
  have KJ2c2 : w2.cell? ⟨w.heap.size + 1 + 1, 2, none⟩ = some (.int .i64 0) := KJ2.out.c 2 rfl
  have KJ2f2 : w2.frozen? ⟨w.heap.size + 1 + 1, 2, none⟩ = false := KJ2.out.f 2 (by simp)
  have KJ2c3 : w2.cell? ⟨w.heap.size + 1 + 1, 3, none⟩ = some (.int .i64 0) := KJ2.out.c 3 rfl
  have KJ2f3 : w2.frozen? ⟨w.heap.size + 1 + 1, 3, none⟩ = false := KJ2.out.f 3 (by simp)
  have KJ2c4 : w2.cell? ⟨w.heap.size + 1 + 1, 4, none⟩ = some (.int .i64 0) := KJ2.out.c 4 rfl
  have KJ2f4 : w2.frozen? ⟨w.heap.size + 1 + 1, 4, none⟩ = false := KJ2.out.f 4 (by simp)
  have KJ2c5 : w2.cell? ⟨w.heap.size + 1 + 1, 5, none⟩ = some (.bool false) := KJ2.out.c 5 rfl
  have KJ2f5 : w2.frozen? ⟨w.heap.size + 1 + 1, 5, none⟩ = false := KJ2.out.f 5 (by simp)
  have KJ2c6 : w2.cell? ⟨w.heap.size + 1 + 1, 6, none⟩ = some (.bool false) := KJ2.out.c 6 rfl
  have KJ2f6 : w2.frozen? ⟨w.heap.size + 1 + 1, 6, none⟩ = false := KJ2.out.f 6 (by simp)
  have KR2c0 : w2.cell? ⟨w.heap.size + 1 + 1 + 1, 0, none⟩ = some (.int .i64 0) := KR2.out.c 0 rfl
  have KR2f0 : w2.frozen? ⟨w.heap.size + 1 + 1 + 1, 0, none⟩ = false := KR2.out.f 0 (by simp)
  have KR2c1 : w2.cell? ⟨w.heap.size + 1 + 1 + 1, 1, none⟩ = some (.int .i64 0) := KR2.out.c 1 rfl
  have KR2f1 : w2.frozen? ⟨w.heap.size + 1 + 1 + 1, 1, none⟩ = false := KR2.out.f 1 (by simp)
  have KR2c2 : w2.cell? ⟨w.heap.size + 1 + 1 + 1, 2, none⟩ = some (.int .i64 0) := KR2.out.c 2 rfl
  have KR2f2 : w2.frozen? ⟨w.heap.size + 1 + 1 + 1, 2, none⟩ = false := KR2.out.f 2 (by simp)
  go_wp2
  exact bodyPost_ret (v := .tuple #[.agg zj, .agg zh, .int .i64 28]) (by simp [results, Try.results13, go_sem, KJ2c0, KJ2c1, KJ2c2, KJ2c3, KJ2c4, KJ2c5, KJ2c6, KR2c0, KR2c1, KR2c2]) rfl (RecvPost.mk (by repeat (first | with_reducible exact HB2x.out | with_reducible exact Below.refl _ _ | ((with_reducible refine Below.setCell ?_ ?_ _); rotate_left; focus (first | (simp; done) | (simp; omega) | omega)) | ((with_reducible refine Below.alloc ?_ ?_ _); rotate_left; focus (first | (simp; done) | (simp; omega) | omega)) | with_reducible refine Below.trans ?_ (below_drewN' _ _ _) | with_reducible refine Below.trans ?_ (below_drew _ _))))
set_option maxRecDepth 100000 in
set_option maxHeartbeats 8000000 in
theorem rrecv_dev (c s m o k : Int) (x y z : Int) (w : World) (hv : vld s m o k false = true) (hx : (x == 2) = false)  : Calls Try.prog 13 #[.agg (jc c s m o k false false), .agg (hc3 x y z)] w (RecvPost zj zh 28 w) := by
  have HX := Lib.hid hx
  have HV := Lib.hid hv
  have KS := Lib.hid ((((Cs.new w (w.heap.size) (jc c s m o k false false) 23 (by simp)).alloc (.cells (hc3 x y z) 25)).alloc (.cells zj 23)).alloc (.cells zh 25))
  have KH := Lib.hid (((Cs.new (w.alloc (.cells (jc c s m o k false false) 23)) (w.heap.size + 1) (hc3 x y z) 25 (by simp)).alloc (.cells zj 23)).alloc (.cells zh 25))
  have KJ := Lib.hid ((Cs.new ((w.alloc (.cells (jc c s m o k false false) 23)).alloc (.cells (hc3 x y z) 25)) (w.heap.size + 1 + 1) zj 23 (by simp)).alloc (.cells zh 25))
  have KR := Lib.hid (Cs.new (((w.alloc (.cells (jc c s m o k false false) 23)).alloc (.cells (hc3 x y z) 25)).alloc (.cells zj 23)) (w.heap.size + 1 + 1 + 1) zh 25 (by simp))
  have HB0 := Lib.hid (show Below w.heap.size w ((((w.alloc (.cells (jc c s m o k false false) 23)).alloc (.cells (hc3 x y z) 25)).alloc (.cells zj 23)).alloc (.cells zh 25)) from (by repeat (first | with_reducible exact Below.refl _ _ | with_reducible exact Below.refl _ _ | ((with_reducible refine Below.setCell ?_ ?_ _); rotate_left; focus (first | (simp; done) | (simp; omega) | omega)) | ((with_reducible refine Below.alloc ?_ ?_ _); rotate_left; focus (first | (simp; done) | (simp; omega) | omega)) | with_reducible refine Below.trans ?_ (below_drewN' _ _ _) | with_reducible refine Below.trans ?_ (below_drew _ _))))
  clear hv
  go_enter Try.func13, Try.ntmps13
  go_wp2_with fail
  refine (rvalid_at c s m o k false false true _ HV.out).mono ?_
  rintro e w1 ⟨rfl, b1⟩
  have KS1 := Lib.hid (KS.out.step b1)
  have KH1 := Lib.hid (KH.out.step b1)
  have KJ1 := Lib.hid (KJ.out.step b1)
  have KR1 := Lib.hid (KR.out.step b1)
  have HB1x := Lib.hid (HB0.out.trans (b1.mono (by simp; omega)))
  clear b1 KS KH KJ KR HB0
  have lt0w1 : w.heap.size < w1.heap.size := KS1.out.2.2
  have lt1w1 : w.heap.size + 1 < w1.heap.size := KH1.out.2.2
  have lt2w1 : w.heap.size + 1 + 1 < w1.heap.size := KJ1.out.2.2
  have lt3w1 : w.heap.size + 1 + 1 + 1 < w1.heap.size := KR1.out.2.2
  have KS1c0 : w1.cell? ⟨w.heap.size, 0, none⟩ = some (.int .i64 c) := KS1.out.c 0 rfl
  have KS1c1 : w1.cell? ⟨w.heap.size, 1, none⟩ = some (.int .i64 s) := KS1.out.c 1 rfl
  have KS1c2 : w1.cell? ⟨w.heap.size, 2, none⟩ = some (.int .i64 m) := KS1.out.c 2 rfl
  have KS1c3 : w1.cell? ⟨w.heap.size, 3, none⟩ = some (.int .i64 o) := KS1.out.c 3 rfl
  have KS1c4 : w1.cell? ⟨w.heap.size, 4, none⟩ = some (.int .i64 k) := KS1.out.c 4 rfl
  have KS1c5 : w1.cell? ⟨w.heap.size, 5, none⟩ = some (.bool false) := KS1.out.c 5 rfl
  have KS1c6 : w1.cell? ⟨w.heap.size, 6, none⟩ = some (.bool false) := KS1.out.c 6 rfl
  have KH1c0 : w1.cell? ⟨w.heap.size + 1, 0, none⟩ = some (.int .i64 x) := KH1.out.c 0 rfl
  have KH1c1 : w1.cell? ⟨w.heap.size + 1, 1, none⟩ = some (.int .i64 y) := KH1.out.c 1 rfl
  have KH1c2 : w1.cell? ⟨w.heap.size + 1, 2, none⟩ = some (.int .i64 z) := KH1.out.c 2 rfl
  go_wp2_with fail
  refine (expects_at c s m o k false false x false _ (by unfold expB; simp only [HX.out]; rfl)).mono ?_
  rintro e w2 ⟨rfl, b2⟩
  clear KS1c0 KS1c1 KS1c2 KS1c3 KS1c4 KS1c5 KS1c6 KH1c0 KH1c1 KH1c2 lt0w1 lt1w1 lt2w1 lt3w1
  have KS2 := Lib.hid (KS1.out.step b2)
  have KH2 := Lib.hid (KH1.out.step b2)
  have KJ2 := Lib.hid (KJ1.out.step b2)
  have KR2 := Lib.hid (KR1.out.step b2)
  have HB2x := Lib.hid (keep2 b2 HB1x.out)
  clear b2 KS1 KH1 KJ1 KR1 HB1x
  have lt0w2 : w.heap.size < w2.heap.size := KS2.out.2.2
  have lt1w2 : w.heap.size + 1 < w2.heap.size := KH2.out.2.2
  have lt2w2 : w.heap.size + 1 + 1 < w2.heap.size := KJ2.out.2.2
  have lt3w2 : w.heap.size + 1 + 1 + 1 < w2.heap.size := KR2.out.2.2
  have KJ2c0 : w2.cell? ⟨w.heap.size + 1 + 1, 0, none⟩ = some (.int .i64 0) := KJ2.out.c 0 rfl
  have KJ2f0 : w2.frozen? ⟨w.heap.size + 1 + 1, 0, none⟩ = false := KJ2.out.f 0 (by simp)
  have KJ2c1 : w2.cell? ⟨w.heap.size + 1 + 1, 1, none⟩ = some (.int .i64 0) := KJ2.out.c 1 rfl
  have KJ2f1 : w2.frozen? ⟨w.heap.size + 1 + 1, 1, none⟩ = false := KJ2.out.f 1 (by simp)
  have KJ2c2 : w2.cell? ⟨w.heap.size + 1 + 1, 2, none⟩ = some (.int .i64 0) := KJ2.out.c 2 rfl
  have KJ2f2 : w2.frozen? ⟨w.heap.size + 1 + 1, 2, none⟩ = false := KJ2.out.f 2 (by simp)
  have KJ2c3 : w2.cell? ⟨w.heap.size + 1 + 1, 3, none⟩ = some (.int .i64 0) := KJ2.out.c 3 rfl
  have KJ2f3 : w2.frozen? ⟨w.heap.size + 1 + 1, 3, none⟩ = false := KJ2.out.f 3 (by simp)
  have KJ2c4 : w2.cell? ⟨w.heap.size + 1 + 1, 4, none⟩ = some (.int .i64 0) := KJ2.out.c 4 rfl
  have KJ2f4 : w2.frozen? ⟨w.heap.size + 1 + 1, 4, none⟩ = false := KJ2.out.f 4 (by simp)
  have KJ2c5 : w2.cell? ⟨w.heap.size + 1 + 1, 5, none⟩ = some (.bool false) := KJ2.out.c 5 rfl
  have KJ2f5 : w2.frozen? ⟨w.heap.size + 1 + 1, 5, none⟩ = false := KJ2.out.f 5 (by simp)
  have KJ2c6 : w2.cell? ⟨w.heap.size + 1 + 1, 6, none⟩ = some (.bool false) := KJ2.out.c 6 rfl
  have KJ2f6 : w2.frozen? ⟨w.heap.size + 1 + 1, 6, none⟩ = false := KJ2.out.f 6 (by simp)
  have KR2c0 : w2.cell? ⟨w.heap.size + 1 + 1 + 1, 0, none⟩ = some (.int .i64 0) := KR2.out.c 0 rfl
  have KR2f0 : w2.frozen? ⟨w.heap.size + 1 + 1 + 1, 0, none⟩ = false := KR2.out.f 0 (by simp)
  have KR2c1 : w2.cell? ⟨w.heap.size + 1 + 1 + 1, 1, none⟩ = some (.int .i64 0) := KR2.out.c 1 rfl
  have KR2f1 : w2.frozen? ⟨w.heap.size + 1 + 1 + 1, 1, none⟩ = false := KR2.out.f 1 (by simp)
  have KR2c2 : w2.cell? ⟨w.heap.size + 1 + 1 + 1, 2, none⟩ = some (.int .i64 0) := KR2.out.c 2 rfl
  have KR2f2 : w2.frozen? ⟨w.heap.size + 1 + 1 + 1, 2, none⟩ = false := KR2.out.f 2 (by simp)
  go_wp2
  exact bodyPost_ret (v := .tuple #[.agg zj, .agg zh, .int .i64 28]) (by simp [results, Try.results13, go_sem, KJ2c0, KJ2c1, KJ2c2, KJ2c3, KJ2c4, KJ2c5, KJ2c6, KR2c0, KR2c1, KR2c2]) rfl (RecvPost.mk (by repeat (first | with_reducible exact HB2x.out | with_reducible exact Below.refl _ _ | ((with_reducible refine Below.setCell ?_ ?_ _); rotate_left; focus (first | (simp; done) | (simp; omega) | omega)) | ((with_reducible refine Below.alloc ?_ ?_ _); rotate_left; focus (first | (simp; done) | (simp; omega) | omega)) | with_reducible refine Below.trans ?_ (below_drewN' _ _ _) | with_reducible refine Below.trans ?_ (below_drew _ _))))
set_option maxRecDepth 100000 in
set_option maxHeartbeats 8000000 in
theorem rrecv_hub (c s m o k : Int) (x y z : Int) (w : World) (hv : vld s m o k false = true) (hx : (x == 1) = false) (hx3 : (x == 3) = false)  : Calls Try.prog 13 #[.agg (jc c s m o k true false), .agg (hc3 x y z)] w (RecvPost zj zh 28 w) := by
  have HX := Lib.hid hx
  have HX3 := Lib.hid hx3
  have HV := Lib.hid hv
  have KS := Lib.hid ((((Cs.new w (w.heap.size) (jc c s m o k true false) 23 (by simp)).alloc (.cells (hc3 x y z) 25)).alloc (.cells zj 23)).alloc (.cells zh 25))
  have KH := Lib.hid (((Cs.new (w.alloc (.cells (jc c s m o k true false) 23)) (w.heap.size + 1) (hc3 x y z) 25 (by simp)).alloc (.cells zj 23)).alloc (.cells zh 25))
  have KJ := Lib.hid ((Cs.new ((w.alloc (.cells (jc c s m o k true false) 23)).alloc (.cells (hc3 x y z) 25)) (w.heap.size + 1 + 1) zj 23 (by simp)).alloc (.cells zh 25))
  have KR := Lib.hid (Cs.new (((w.alloc (.cells (jc c s m o k true false) 23)).alloc (.cells (hc3 x y z) 25)).alloc (.cells zj 23)) (w.heap.size + 1 + 1 + 1) zh 25 (by simp))
  have HB0 := Lib.hid (show Below w.heap.size w ((((w.alloc (.cells (jc c s m o k true false) 23)).alloc (.cells (hc3 x y z) 25)).alloc (.cells zj 23)).alloc (.cells zh 25)) from (by repeat (first | with_reducible exact Below.refl _ _ | with_reducible exact Below.refl _ _ | ((with_reducible refine Below.setCell ?_ ?_ _); rotate_left; focus (first | (simp; done) | (simp; omega) | omega)) | ((with_reducible refine Below.alloc ?_ ?_ _); rotate_left; focus (first | (simp; done) | (simp; omega) | omega)) | with_reducible refine Below.trans ?_ (below_drewN' _ _ _) | with_reducible refine Below.trans ?_ (below_drew _ _))))
  clear hv
  go_enter Try.func13, Try.ntmps13
  go_wp2_with fail
  refine (rvalid_at c s m o k true false true _ HV.out).mono ?_
  rintro e w1 ⟨rfl, b1⟩
  have KS1 := Lib.hid (KS.out.step b1)
  have KH1 := Lib.hid (KH.out.step b1)
  have KJ1 := Lib.hid (KJ.out.step b1)
  have KR1 := Lib.hid (KR.out.step b1)
  have HB1x := Lib.hid (HB0.out.trans (b1.mono (by simp; omega)))
  clear b1 KS KH KJ KR HB0
  have lt0w1 : w.heap.size < w1.heap.size := KS1.out.2.2
  have lt1w1 : w.heap.size + 1 < w1.heap.size := KH1.out.2.2
  have lt2w1 : w.heap.size + 1 + 1 < w1.heap.size := KJ1.out.2.2
  have lt3w1 : w.heap.size + 1 + 1 + 1 < w1.heap.size := KR1.out.2.2
  have KS1c0 : w1.cell? ⟨w.heap.size, 0, none⟩ = some (.int .i64 c) := KS1.out.c 0 rfl
  have KS1c1 : w1.cell? ⟨w.heap.size, 1, none⟩ = some (.int .i64 s) := KS1.out.c 1 rfl
  have KS1c2 : w1.cell? ⟨w.heap.size, 2, none⟩ = some (.int .i64 m) := KS1.out.c 2 rfl
  have KS1c3 : w1.cell? ⟨w.heap.size, 3, none⟩ = some (.int .i64 o) := KS1.out.c 3 rfl
  have KS1c4 : w1.cell? ⟨w.heap.size, 4, none⟩ = some (.int .i64 k) := KS1.out.c 4 rfl
  have KS1c5 : w1.cell? ⟨w.heap.size, 5, none⟩ = some (.bool true) := KS1.out.c 5 rfl
  have KS1c6 : w1.cell? ⟨w.heap.size, 6, none⟩ = some (.bool false) := KS1.out.c 6 rfl
  have KH1c0 : w1.cell? ⟨w.heap.size + 1, 0, none⟩ = some (.int .i64 x) := KH1.out.c 0 rfl
  have KH1c1 : w1.cell? ⟨w.heap.size + 1, 1, none⟩ = some (.int .i64 y) := KH1.out.c 1 rfl
  have KH1c2 : w1.cell? ⟨w.heap.size + 1, 2, none⟩ = some (.int .i64 z) := KH1.out.c 2 rfl
  go_wp2_with fail
  refine (expects_at c s m o k true false x false _ (by unfold expB; simp only [HX.out, HX3.out]; rfl)).mono ?_
  rintro e w2 ⟨rfl, b2⟩
  clear KS1c0 KS1c1 KS1c2 KS1c3 KS1c4 KS1c5 KS1c6 KH1c0 KH1c1 KH1c2 lt0w1 lt1w1 lt2w1 lt3w1
  have KS2 := Lib.hid (KS1.out.step b2)
  have KH2 := Lib.hid (KH1.out.step b2)
  have KJ2 := Lib.hid (KJ1.out.step b2)
  have KR2 := Lib.hid (KR1.out.step b2)
  have HB2x := Lib.hid (keep2 b2 HB1x.out)
  clear b2 KS1 KH1 KJ1 KR1 HB1x
  have lt0w2 : w.heap.size < w2.heap.size := KS2.out.2.2
  have lt1w2 : w.heap.size + 1 < w2.heap.size := KH2.out.2.2
  have lt2w2 : w.heap.size + 1 + 1 < w2.heap.size := KJ2.out.2.2
  have lt3w2 : w.heap.size + 1 + 1 + 1 < w2.heap.size := KR2.out.2.2
  have KJ2c0 : w2.cell? ⟨w.heap.size + 1 + 1, 0, none⟩ = some (.int .i64 0) := KJ2.out.c 0 rfl
  have KJ2f0 : w2.frozen? ⟨w.heap.size + 1 + 1, 0, none⟩ = false := KJ2.out.f 0 (by simp)
  have KJ2c1 : w2.cell? ⟨w.heap.size + 1 + 1, 1, none⟩ = some (.int .i64 0) := KJ2.out.c 1 rfl
  have KJ2f1 : w2.frozen? ⟨w.heap.size + 1 + 1, 1, none⟩ = false := KJ2.out.f 1 (by simp)
  have KJ2c2 : w2.cell? ⟨w.heap.size + 1 + 1, 2, none⟩ = some (.int .i64 0) := KJ2.out.c 2 rfl
  have KJ2f2 : w2.frozen? ⟨w.heap.size + 1 + 1, 2, none⟩ = false := KJ2.out.f 2 (by simp)
  have KJ2c3 : w2.cell? ⟨w.heap.size + 1 + 1, 3, none⟩ = some (.int .i64 0) := KJ2.out.c 3 rfl
  have KJ2f3 : w2.frozen? ⟨w.heap.size + 1 + 1, 3, none⟩ = false := KJ2.out.f 3 (by simp)
  have KJ2c4 : w2.cell? ⟨w.heap.size + 1 + 1, 4, none⟩ = some (.int .i64 0) := KJ2.out.c 4 rfl
  have KJ2f4 : w2.frozen? ⟨w.heap.size + 1 + 1, 4, none⟩ = false := KJ2.out.f 4 (by simp)
  have KJ2c5 : w2.cell? ⟨w.heap.size + 1 + 1, 5, none⟩ = some (.bool false) := KJ2.out.c 5 rfl
  have KJ2f5 : w2.frozen? ⟨w.heap.size + 1 + 1, 5, none⟩ = false := KJ2.out.f 5 (by simp)
  have KJ2c6 : w2.cell? ⟨w.heap.size + 1 + 1, 6, none⟩ = some (.bool false) := KJ2.out.c 6 rfl
  have KJ2f6 : w2.frozen? ⟨w.heap.size + 1 + 1, 6, none⟩ = false := KJ2.out.f 6 (by simp)
  have KR2c0 : w2.cell? ⟨w.heap.size + 1 + 1 + 1, 0, none⟩ = some (.int .i64 0) := KR2.out.c 0 rfl
  have KR2f0 : w2.frozen? ⟨w.heap.size + 1 + 1 + 1, 0, none⟩ = false := KR2.out.f 0 (by simp)
  have KR2c1 : w2.cell? ⟨w.heap.size + 1 + 1 + 1, 1, none⟩ = some (.int .i64 0) := KR2.out.c 1 rfl
  have KR2f1 : w2.frozen? ⟨w.heap.size + 1 + 1 + 1, 1, none⟩ = false := KR2.out.f 1 (by simp)
  have KR2c2 : w2.cell? ⟨w.heap.size + 1 + 1 + 1, 2, none⟩ = some (.int .i64 0) := KR2.out.c 2 rfl
  have KR2f2 : w2.frozen? ⟨w.heap.size + 1 + 1 + 1, 2, none⟩ = false := KR2.out.f 2 (by simp)
  go_wp2
  exact bodyPost_ret (v := .tuple #[.agg zj, .agg zh, .int .i64 28]) (by simp [results, Try.results13, go_sem, KJ2c0, KJ2c1, KJ2c2, KJ2c3, KJ2c4, KJ2c5, KJ2c6, KR2c0, KR2c1, KR2c2]) rfl (RecvPost.mk (by repeat (first | with_reducible exact HB2x.out | with_reducible exact Below.refl _ _ | ((with_reducible refine Below.setCell ?_ ?_ _); rotate_left; focus (first | (simp; done) | (simp; omega) | omega)) | ((with_reducible refine Below.alloc ?_ ?_ _); rotate_left; focus (first | (simp; done) | (simp; omega) | omega)) | with_reducible refine Below.trans ?_ (below_drewN' _ _ _) | with_reducible refine Below.trans ?_ (below_drew _ _))))
set_option maxRecDepth 100000 in
set_option maxHeartbeats 8000000 in
theorem rrecv_hub3 (c s m o k : Int) (y z : Int) (w : World) (hv : vld s m o k false = true) (ho : (o != 0) = false)  : Calls Try.prog 13 #[.agg (jc c s m o k true false), .agg (hc3 3 y z)] w (RecvPost zj zh 28 w) := by
  have HO := Lib.hid ho
  have HV := Lib.hid hv
  have KS := Lib.hid ((((Cs.new w (w.heap.size) (jc c s m o k true false) 23 (by simp)).alloc (.cells (hc3 3 y z) 25)).alloc (.cells zj 23)).alloc (.cells zh 25))
  have KH := Lib.hid (((Cs.new (w.alloc (.cells (jc c s m o k true false) 23)) (w.heap.size + 1) (hc3 3 y z) 25 (by simp)).alloc (.cells zj 23)).alloc (.cells zh 25))
  have KJ := Lib.hid ((Cs.new ((w.alloc (.cells (jc c s m o k true false) 23)).alloc (.cells (hc3 3 y z) 25)) (w.heap.size + 1 + 1) zj 23 (by simp)).alloc (.cells zh 25))
  have KR := Lib.hid (Cs.new (((w.alloc (.cells (jc c s m o k true false) 23)).alloc (.cells (hc3 3 y z) 25)).alloc (.cells zj 23)) (w.heap.size + 1 + 1 + 1) zh 25 (by simp))
  have HB0 := Lib.hid (show Below w.heap.size w ((((w.alloc (.cells (jc c s m o k true false) 23)).alloc (.cells (hc3 3 y z) 25)).alloc (.cells zj 23)).alloc (.cells zh 25)) from (by repeat (first | with_reducible exact Below.refl _ _ | with_reducible exact Below.refl _ _ | ((with_reducible refine Below.setCell ?_ ?_ _); rotate_left; focus (first | (simp; done) | (simp; omega) | omega)) | ((with_reducible refine Below.alloc ?_ ?_ _); rotate_left; focus (first | (simp; done) | (simp; omega) | omega)) | with_reducible refine Below.trans ?_ (below_drewN' _ _ _) | with_reducible refine Below.trans ?_ (below_drew _ _))))
  clear hv
  go_enter Try.func13, Try.ntmps13
  go_wp2_with fail
  refine (rvalid_at c s m o k true false true _ HV.out).mono ?_
  rintro e w1 ⟨rfl, b1⟩
  have KS1 := Lib.hid (KS.out.step b1)
  have KH1 := Lib.hid (KH.out.step b1)
  have KJ1 := Lib.hid (KJ.out.step b1)
  have KR1 := Lib.hid (KR.out.step b1)
  have HB1x := Lib.hid (HB0.out.trans (b1.mono (by simp; omega)))
  clear b1 KS KH KJ KR HB0
  have lt0w1 : w.heap.size < w1.heap.size := KS1.out.2.2
  have lt1w1 : w.heap.size + 1 < w1.heap.size := KH1.out.2.2
  have lt2w1 : w.heap.size + 1 + 1 < w1.heap.size := KJ1.out.2.2
  have lt3w1 : w.heap.size + 1 + 1 + 1 < w1.heap.size := KR1.out.2.2
  have KS1c0 : w1.cell? ⟨w.heap.size, 0, none⟩ = some (.int .i64 c) := KS1.out.c 0 rfl
  have KS1c1 : w1.cell? ⟨w.heap.size, 1, none⟩ = some (.int .i64 s) := KS1.out.c 1 rfl
  have KS1c2 : w1.cell? ⟨w.heap.size, 2, none⟩ = some (.int .i64 m) := KS1.out.c 2 rfl
  have KS1c3 : w1.cell? ⟨w.heap.size, 3, none⟩ = some (.int .i64 o) := KS1.out.c 3 rfl
  have KS1c4 : w1.cell? ⟨w.heap.size, 4, none⟩ = some (.int .i64 k) := KS1.out.c 4 rfl
  have KS1c5 : w1.cell? ⟨w.heap.size, 5, none⟩ = some (.bool true) := KS1.out.c 5 rfl
  have KS1c6 : w1.cell? ⟨w.heap.size, 6, none⟩ = some (.bool false) := KS1.out.c 6 rfl
  have KH1c0 : w1.cell? ⟨w.heap.size + 1, 0, none⟩ = some (.int .i64 3) := KH1.out.c 0 rfl
  have KH1c1 : w1.cell? ⟨w.heap.size + 1, 1, none⟩ = some (.int .i64 y) := KH1.out.c 1 rfl
  have KH1c2 : w1.cell? ⟨w.heap.size + 1, 2, none⟩ = some (.int .i64 z) := KH1.out.c 2 rfl
  go_wp2_with fail
  refine (expects_at c s m o k true false 3 false _ (by unfold expB; simp only [HO.out]; rfl)).mono ?_
  rintro e w2 ⟨rfl, b2⟩
  clear KS1c0 KS1c1 KS1c2 KS1c3 KS1c4 KS1c5 KS1c6 KH1c0 KH1c1 KH1c2 lt0w1 lt1w1 lt2w1 lt3w1
  have KS2 := Lib.hid (KS1.out.step b2)
  have KH2 := Lib.hid (KH1.out.step b2)
  have KJ2 := Lib.hid (KJ1.out.step b2)
  have KR2 := Lib.hid (KR1.out.step b2)
  have HB2x := Lib.hid (keep2 b2 HB1x.out)
  clear b2 KS1 KH1 KJ1 KR1 HB1x
  have lt0w2 : w.heap.size < w2.heap.size := KS2.out.2.2
  have lt1w2 : w.heap.size + 1 < w2.heap.size := KH2.out.2.2
  have lt2w2 : w.heap.size + 1 + 1 < w2.heap.size := KJ2.out.2.2
  have lt3w2 : w.heap.size + 1 + 1 + 1 < w2.heap.size := KR2.out.2.2
  have KJ2c0 : w2.cell? ⟨w.heap.size + 1 + 1, 0, none⟩ = some (.int .i64 0) := KJ2.out.c 0 rfl
  have KJ2f0 : w2.frozen? ⟨w.heap.size + 1 + 1, 0, none⟩ = false := KJ2.out.f 0 (by simp)
  have KJ2c1 : w2.cell? ⟨w.heap.size + 1 + 1, 1, none⟩ = some (.int .i64 0) := KJ2.out.c 1 rfl
  have KJ2f1 : w2.frozen? ⟨w.heap.size + 1 + 1, 1, none⟩ = false := KJ2.out.f 1 (by simp)
  have KJ2c2 : w2.cell? ⟨w.heap.size + 1 + 1, 2, none⟩ = some (.int .i64 0) := KJ2.out.c 2 rfl
  have KJ2f2 : w2.frozen? ⟨w.heap.size + 1 + 1, 2, none⟩ = false := KJ2.out.f 2 (by simp)
  have KJ2c3 : w2.cell? ⟨w.heap.size + 1 + 1, 3, none⟩ = some (.int .i64 0) := KJ2.out.c 3 rfl
  have KJ2f3 : w2.frozen? ⟨w.heap.size + 1 + 1, 3, none⟩ = false := KJ2.out.f 3 (by simp)
  have KJ2c4 : w2.cell? ⟨w.heap.size + 1 + 1, 4, none⟩ = some (.int .i64 0) := KJ2.out.c 4 rfl
  have KJ2f4 : w2.frozen? ⟨w.heap.size + 1 + 1, 4, none⟩ = false := KJ2.out.f 4 (by simp)
  have KJ2c5 : w2.cell? ⟨w.heap.size + 1 + 1, 5, none⟩ = some (.bool false) := KJ2.out.c 5 rfl
  have KJ2f5 : w2.frozen? ⟨w.heap.size + 1 + 1, 5, none⟩ = false := KJ2.out.f 5 (by simp)
  have KJ2c6 : w2.cell? ⟨w.heap.size + 1 + 1, 6, none⟩ = some (.bool false) := KJ2.out.c 6 rfl
  have KJ2f6 : w2.frozen? ⟨w.heap.size + 1 + 1, 6, none⟩ = false := KJ2.out.f 6 (by simp)
  have KR2c0 : w2.cell? ⟨w.heap.size + 1 + 1 + 1, 0, none⟩ = some (.int .i64 0) := KR2.out.c 0 rfl
  have KR2f0 : w2.frozen? ⟨w.heap.size + 1 + 1 + 1, 0, none⟩ = false := KR2.out.f 0 (by simp)
  have KR2c1 : w2.cell? ⟨w.heap.size + 1 + 1 + 1, 1, none⟩ = some (.int .i64 0) := KR2.out.c 1 rfl
  have KR2f1 : w2.frozen? ⟨w.heap.size + 1 + 1 + 1, 1, none⟩ = false := KR2.out.f 1 (by simp)
  have KR2c2 : w2.cell? ⟨w.heap.size + 1 + 1 + 1, 2, none⟩ = some (.int .i64 0) := KR2.out.c 2 rfl
  have KR2f2 : w2.frozen? ⟨w.heap.size + 1 + 1 + 1, 2, none⟩ = false := KR2.out.f 2 (by simp)
  go_wp2
  exact bodyPost_ret (v := .tuple #[.agg zj, .agg zh, .int .i64 28]) (by simp [results, Try.results13, go_sem, KJ2c0, KJ2c1, KJ2c2, KJ2c3, KJ2c4, KJ2c5, KJ2c6, KR2c0, KR2c1, KR2c2]) rfl (RecvPost.mk (by repeat (first | with_reducible exact HB2x.out | with_reducible exact Below.refl _ _ | ((with_reducible refine Below.setCell ?_ ?_ _); rotate_left; focus (first | (simp; done) | (simp; omega) | omega)) | ((with_reducible refine Below.alloc ?_ ?_ _); rotate_left; focus (first | (simp; done) | (simp; omega) | omega)) | with_reducible refine Below.trans ?_ (below_drewN' _ _ _) | with_reducible refine Below.trans ?_ (below_drew _ _))))
set_option maxRecDepth 100000 in
set_option maxHeartbeats 8000000 in
theorem rrecv_meetNo (c s m o k : Int) (y z : Int) (w : World) (hv : vld s m o k false = true) (ha : accB y = false)  : Calls Try.prog 13 #[.agg (jc c s m o k true false), .agg (hc3 1 y z)] w (RecvPost zj zh 1 w) := by
  have HA := Lib.hid ha
  clear ha
  have HV := Lib.hid hv
  have KS := Lib.hid ((((Cs.new w (w.heap.size) (jc c s m o k true false) 23 (by simp)).alloc (.cells (hc3 1 y z) 25)).alloc (.cells zj 23)).alloc (.cells zh 25))
  have KH := Lib.hid (((Cs.new (w.alloc (.cells (jc c s m o k true false) 23)) (w.heap.size + 1) (hc3 1 y z) 25 (by simp)).alloc (.cells zj 23)).alloc (.cells zh 25))
  have KJ := Lib.hid ((Cs.new ((w.alloc (.cells (jc c s m o k true false) 23)).alloc (.cells (hc3 1 y z) 25)) (w.heap.size + 1 + 1) zj 23 (by simp)).alloc (.cells zh 25))
  have KR := Lib.hid (Cs.new (((w.alloc (.cells (jc c s m o k true false) 23)).alloc (.cells (hc3 1 y z) 25)).alloc (.cells zj 23)) (w.heap.size + 1 + 1 + 1) zh 25 (by simp))
  have HB0 := Lib.hid (show Below w.heap.size w ((((w.alloc (.cells (jc c s m o k true false) 23)).alloc (.cells (hc3 1 y z) 25)).alloc (.cells zj 23)).alloc (.cells zh 25)) from (by repeat (first | with_reducible exact Below.refl _ _ | with_reducible exact Below.refl _ _ | ((with_reducible refine Below.setCell ?_ ?_ _); rotate_left; focus (first | (simp; done) | (simp; omega) | omega)) | ((with_reducible refine Below.alloc ?_ ?_ _); rotate_left; focus (first | (simp; done) | (simp; omega) | omega)) | with_reducible refine Below.trans ?_ (below_drewN' _ _ _) | with_reducible refine Below.trans ?_ (below_drew _ _))))
  clear hv
  go_enter Try.func13, Try.ntmps13
  go_wp2_with fail
  refine (rvalid_at c s m o k true false true _ HV.out).mono ?_
  rintro e w1 ⟨rfl, b1⟩
  have KS1 := Lib.hid (KS.out.step b1)
  have KH1 := Lib.hid (KH.out.step b1)
  have KJ1 := Lib.hid (KJ.out.step b1)
  have KR1 := Lib.hid (KR.out.step b1)
  have HB1x := Lib.hid (HB0.out.trans (b1.mono (by simp; omega)))
  clear b1 KS KH KJ KR HB0
  have lt0w1 : w.heap.size < w1.heap.size := KS1.out.2.2
  have lt1w1 : w.heap.size + 1 < w1.heap.size := KH1.out.2.2
  have lt2w1 : w.heap.size + 1 + 1 < w1.heap.size := KJ1.out.2.2
  have lt3w1 : w.heap.size + 1 + 1 + 1 < w1.heap.size := KR1.out.2.2
  have KS1c0 : w1.cell? ⟨w.heap.size, 0, none⟩ = some (.int .i64 c) := KS1.out.c 0 rfl
  have KS1c1 : w1.cell? ⟨w.heap.size, 1, none⟩ = some (.int .i64 s) := KS1.out.c 1 rfl
  have KS1c2 : w1.cell? ⟨w.heap.size, 2, none⟩ = some (.int .i64 m) := KS1.out.c 2 rfl
  have KS1c3 : w1.cell? ⟨w.heap.size, 3, none⟩ = some (.int .i64 o) := KS1.out.c 3 rfl
  have KS1c4 : w1.cell? ⟨w.heap.size, 4, none⟩ = some (.int .i64 k) := KS1.out.c 4 rfl
  have KS1c5 : w1.cell? ⟨w.heap.size, 5, none⟩ = some (.bool true) := KS1.out.c 5 rfl
  have KS1c6 : w1.cell? ⟨w.heap.size, 6, none⟩ = some (.bool false) := KS1.out.c 6 rfl
  have KH1c0 : w1.cell? ⟨w.heap.size + 1, 0, none⟩ = some (.int .i64 1) := KH1.out.c 0 rfl
  have KH1c1 : w1.cell? ⟨w.heap.size + 1, 1, none⟩ = some (.int .i64 y) := KH1.out.c 1 rfl
  have KH1c2 : w1.cell? ⟨w.heap.size + 1, 2, none⟩ = some (.int .i64 z) := KH1.out.c 2 rfl
  go_wp2_with fail
  refine (expects_at c s m o k true false 1 true _ (rfl)).mono ?_
  rintro e w2 ⟨rfl, b2⟩
  clear KS1c0 KS1c1 KS1c2 KS1c3 KS1c4 KS1c5 KS1c6 KH1c0 KH1c1 KH1c2 lt0w1 lt1w1 lt2w1 lt3w1
  have KS2 := Lib.hid (KS1.out.step b2)
  have KH2 := Lib.hid (KH1.out.step b2)
  have KJ2 := Lib.hid (KJ1.out.step b2)
  have KR2 := Lib.hid (KR1.out.step b2)
  have HB2x := Lib.hid (keep2 b2 HB1x.out)
  clear b2 KS1 KH1 KJ1 KR1 HB1x
  have lt0w2 : w.heap.size < w2.heap.size := KS2.out.2.2
  have lt1w2 : w.heap.size + 1 < w2.heap.size := KH2.out.2.2
  have lt2w2 : w.heap.size + 1 + 1 < w2.heap.size := KJ2.out.2.2
  have lt3w2 : w.heap.size + 1 + 1 + 1 < w2.heap.size := KR2.out.2.2
  have KH2c0 : w2.cell? ⟨w.heap.size + 1, 0, none⟩ = some (.int .i64 1) := KH2.out.c 0 rfl
  have KH2c1 : w2.cell? ⟨w.heap.size + 1, 1, none⟩ = some (.int .i64 y) := KH2.out.c 1 rfl
  have KH2c2 : w2.cell? ⟨w.heap.size + 1, 2, none⟩ = some (.int .i64 z) := KH2.out.c 2 rfl
  go_wp2_with fail
  refine (racc_at y false _ HA.out).mono ?_
  rintro e w3 ⟨rfl, rfl⟩
  have KJ2c0 : w2.cell? ⟨w.heap.size + 1 + 1, 0, none⟩ = some (.int .i64 0) := KJ2.out.c 0 rfl
  have KJ2f0 : w2.frozen? ⟨w.heap.size + 1 + 1, 0, none⟩ = false := KJ2.out.f 0 (by simp)
  have KJ2c1 : w2.cell? ⟨w.heap.size + 1 + 1, 1, none⟩ = some (.int .i64 0) := KJ2.out.c 1 rfl
  have KJ2f1 : w2.frozen? ⟨w.heap.size + 1 + 1, 1, none⟩ = false := KJ2.out.f 1 (by simp)
  have KJ2c2 : w2.cell? ⟨w.heap.size + 1 + 1, 2, none⟩ = some (.int .i64 0) := KJ2.out.c 2 rfl
  have KJ2f2 : w2.frozen? ⟨w.heap.size + 1 + 1, 2, none⟩ = false := KJ2.out.f 2 (by simp)
  have KJ2c3 : w2.cell? ⟨w.heap.size + 1 + 1, 3, none⟩ = some (.int .i64 0) := KJ2.out.c 3 rfl
  have KJ2f3 : w2.frozen? ⟨w.heap.size + 1 + 1, 3, none⟩ = false := KJ2.out.f 3 (by simp)
  have KJ2c4 : w2.cell? ⟨w.heap.size + 1 + 1, 4, none⟩ = some (.int .i64 0) := KJ2.out.c 4 rfl
  have KJ2f4 : w2.frozen? ⟨w.heap.size + 1 + 1, 4, none⟩ = false := KJ2.out.f 4 (by simp)
  have KJ2c5 : w2.cell? ⟨w.heap.size + 1 + 1, 5, none⟩ = some (.bool false) := KJ2.out.c 5 rfl
  have KJ2f5 : w2.frozen? ⟨w.heap.size + 1 + 1, 5, none⟩ = false := KJ2.out.f 5 (by simp)
  have KJ2c6 : w2.cell? ⟨w.heap.size + 1 + 1, 6, none⟩ = some (.bool false) := KJ2.out.c 6 rfl
  have KJ2f6 : w2.frozen? ⟨w.heap.size + 1 + 1, 6, none⟩ = false := KJ2.out.f 6 (by simp)
  have KR2c0 : w2.cell? ⟨w.heap.size + 1 + 1 + 1, 0, none⟩ = some (.int .i64 0) := KR2.out.c 0 rfl
  have KR2f0 : w2.frozen? ⟨w.heap.size + 1 + 1 + 1, 0, none⟩ = false := KR2.out.f 0 (by simp)
  have KR2c1 : w2.cell? ⟨w.heap.size + 1 + 1 + 1, 1, none⟩ = some (.int .i64 0) := KR2.out.c 1 rfl
  have KR2f1 : w2.frozen? ⟨w.heap.size + 1 + 1 + 1, 1, none⟩ = false := KR2.out.f 1 (by simp)
  have KR2c2 : w2.cell? ⟨w.heap.size + 1 + 1 + 1, 2, none⟩ = some (.int .i64 0) := KR2.out.c 2 rfl
  have KR2f2 : w2.frozen? ⟨w.heap.size + 1 + 1 + 1, 2, none⟩ = false := KR2.out.f 2 (by simp)
  go_wp2
  exact bodyPost_ret (v := .tuple #[.agg zj, .agg zh, .int .i64 1]) (by simp [results, Try.results13, go_sem, KJ2c0, KJ2c1, KJ2c2, KJ2c3, KJ2c4, KJ2c5, KJ2c6, KR2c0, KR2c1, KR2c2]) rfl (RecvPost.mk (by repeat (first | with_reducible exact HB2x.out | with_reducible exact Below.refl _ _ | ((with_reducible refine Below.setCell ?_ ?_ _); rotate_left; focus (first | (simp; done) | (simp; omega) | omega)) | ((with_reducible refine Below.alloc ?_ ?_ _); rotate_left; focus (first | (simp; done) | (simp; omega) | omega)) | with_reducible refine Below.trans ?_ (below_drewN' _ _ _) | with_reducible refine Below.trans ?_ (below_drew _ _))))
set_option maxRecDepth 100000 in
set_option maxHeartbeats 8000000 in
theorem rrecv_agreeNo (c s m o k : Int) (y z : Int) (w : World) (hv : vld s m o k false = true) (ha : accB y = false)  : Calls Try.prog 13 #[.agg (jc c s m o k false false), .agg (hc3 2 y z)] w (RecvPost zj zh 1 w) := by
  have HA := Lib.hid ha
  clear ha
  have HV := Lib.hid hv
  have KS := Lib.hid ((((Cs.new w (w.heap.size) (jc c s m o k false false) 23 (by simp)).alloc (.cells (hc3 2 y z) 25)).alloc (.cells zj 23)).alloc (.cells zh 25))
  have KH := Lib.hid (((Cs.new (w.alloc (.cells (jc c s m o k false false) 23)) (w.heap.size + 1) (hc3 2 y z) 25 (by simp)).alloc (.cells zj 23)).alloc (.cells zh 25))
  have KJ := Lib.hid ((Cs.new ((w.alloc (.cells (jc c s m o k false false) 23)).alloc (.cells (hc3 2 y z) 25)) (w.heap.size + 1 + 1) zj 23 (by simp)).alloc (.cells zh 25))
  have KR := Lib.hid (Cs.new (((w.alloc (.cells (jc c s m o k false false) 23)).alloc (.cells (hc3 2 y z) 25)).alloc (.cells zj 23)) (w.heap.size + 1 + 1 + 1) zh 25 (by simp))
  have HB0 := Lib.hid (show Below w.heap.size w ((((w.alloc (.cells (jc c s m o k false false) 23)).alloc (.cells (hc3 2 y z) 25)).alloc (.cells zj 23)).alloc (.cells zh 25)) from (by repeat (first | with_reducible exact Below.refl _ _ | with_reducible exact Below.refl _ _ | ((with_reducible refine Below.setCell ?_ ?_ _); rotate_left; focus (first | (simp; done) | (simp; omega) | omega)) | ((with_reducible refine Below.alloc ?_ ?_ _); rotate_left; focus (first | (simp; done) | (simp; omega) | omega)) | with_reducible refine Below.trans ?_ (below_drewN' _ _ _) | with_reducible refine Below.trans ?_ (below_drew _ _))))
  clear hv
  go_enter Try.func13, Try.ntmps13
  go_wp2_with fail
  refine (rvalid_at c s m o k false false true _ HV.out).mono ?_
  rintro e w1 ⟨rfl, b1⟩
  have KS1 := Lib.hid (KS.out.step b1)
  have KH1 := Lib.hid (KH.out.step b1)
  have KJ1 := Lib.hid (KJ.out.step b1)
  have KR1 := Lib.hid (KR.out.step b1)
  have HB1x := Lib.hid (HB0.out.trans (b1.mono (by simp; omega)))
  clear b1 KS KH KJ KR HB0
  have lt0w1 : w.heap.size < w1.heap.size := KS1.out.2.2
  have lt1w1 : w.heap.size + 1 < w1.heap.size := KH1.out.2.2
  have lt2w1 : w.heap.size + 1 + 1 < w1.heap.size := KJ1.out.2.2
  have lt3w1 : w.heap.size + 1 + 1 + 1 < w1.heap.size := KR1.out.2.2
  have KS1c0 : w1.cell? ⟨w.heap.size, 0, none⟩ = some (.int .i64 c) := KS1.out.c 0 rfl
  have KS1c1 : w1.cell? ⟨w.heap.size, 1, none⟩ = some (.int .i64 s) := KS1.out.c 1 rfl
  have KS1c2 : w1.cell? ⟨w.heap.size, 2, none⟩ = some (.int .i64 m) := KS1.out.c 2 rfl
  have KS1c3 : w1.cell? ⟨w.heap.size, 3, none⟩ = some (.int .i64 o) := KS1.out.c 3 rfl
  have KS1c4 : w1.cell? ⟨w.heap.size, 4, none⟩ = some (.int .i64 k) := KS1.out.c 4 rfl
  have KS1c5 : w1.cell? ⟨w.heap.size, 5, none⟩ = some (.bool false) := KS1.out.c 5 rfl
  have KS1c6 : w1.cell? ⟨w.heap.size, 6, none⟩ = some (.bool false) := KS1.out.c 6 rfl
  have KH1c0 : w1.cell? ⟨w.heap.size + 1, 0, none⟩ = some (.int .i64 2) := KH1.out.c 0 rfl
  have KH1c1 : w1.cell? ⟨w.heap.size + 1, 1, none⟩ = some (.int .i64 y) := KH1.out.c 1 rfl
  have KH1c2 : w1.cell? ⟨w.heap.size + 1, 2, none⟩ = some (.int .i64 z) := KH1.out.c 2 rfl
  go_wp2_with fail
  refine (expects_at c s m o k false false 2 true _ (rfl)).mono ?_
  rintro e w2 ⟨rfl, b2⟩
  clear KS1c0 KS1c1 KS1c2 KS1c3 KS1c4 KS1c5 KS1c6 KH1c0 KH1c1 KH1c2 lt0w1 lt1w1 lt2w1 lt3w1
  have KS2 := Lib.hid (KS1.out.step b2)
  have KH2 := Lib.hid (KH1.out.step b2)
  have KJ2 := Lib.hid (KJ1.out.step b2)
  have KR2 := Lib.hid (KR1.out.step b2)
  have HB2x := Lib.hid (keep2 b2 HB1x.out)
  clear b2 KS1 KH1 KJ1 KR1 HB1x
  have lt0w2 : w.heap.size < w2.heap.size := KS2.out.2.2
  have lt1w2 : w.heap.size + 1 < w2.heap.size := KH2.out.2.2
  have lt2w2 : w.heap.size + 1 + 1 < w2.heap.size := KJ2.out.2.2
  have lt3w2 : w.heap.size + 1 + 1 + 1 < w2.heap.size := KR2.out.2.2
  have KH2c0 : w2.cell? ⟨w.heap.size + 1, 0, none⟩ = some (.int .i64 2) := KH2.out.c 0 rfl
  have KH2c1 : w2.cell? ⟨w.heap.size + 1, 1, none⟩ = some (.int .i64 y) := KH2.out.c 1 rfl
  have KH2c2 : w2.cell? ⟨w.heap.size + 1, 2, none⟩ = some (.int .i64 z) := KH2.out.c 2 rfl
  go_wp2_with fail
  refine (racc_at y false _ HA.out).mono ?_
  rintro e w3 ⟨rfl, rfl⟩
  have KJ2c0 : w2.cell? ⟨w.heap.size + 1 + 1, 0, none⟩ = some (.int .i64 0) := KJ2.out.c 0 rfl
  have KJ2f0 : w2.frozen? ⟨w.heap.size + 1 + 1, 0, none⟩ = false := KJ2.out.f 0 (by simp)
  have KJ2c1 : w2.cell? ⟨w.heap.size + 1 + 1, 1, none⟩ = some (.int .i64 0) := KJ2.out.c 1 rfl
  have KJ2f1 : w2.frozen? ⟨w.heap.size + 1 + 1, 1, none⟩ = false := KJ2.out.f 1 (by simp)
  have KJ2c2 : w2.cell? ⟨w.heap.size + 1 + 1, 2, none⟩ = some (.int .i64 0) := KJ2.out.c 2 rfl
  have KJ2f2 : w2.frozen? ⟨w.heap.size + 1 + 1, 2, none⟩ = false := KJ2.out.f 2 (by simp)
  have KJ2c3 : w2.cell? ⟨w.heap.size + 1 + 1, 3, none⟩ = some (.int .i64 0) := KJ2.out.c 3 rfl
  have KJ2f3 : w2.frozen? ⟨w.heap.size + 1 + 1, 3, none⟩ = false := KJ2.out.f 3 (by simp)
  have KJ2c4 : w2.cell? ⟨w.heap.size + 1 + 1, 4, none⟩ = some (.int .i64 0) := KJ2.out.c 4 rfl
  have KJ2f4 : w2.frozen? ⟨w.heap.size + 1 + 1, 4, none⟩ = false := KJ2.out.f 4 (by simp)
  have KJ2c5 : w2.cell? ⟨w.heap.size + 1 + 1, 5, none⟩ = some (.bool false) := KJ2.out.c 5 rfl
  have KJ2f5 : w2.frozen? ⟨w.heap.size + 1 + 1, 5, none⟩ = false := KJ2.out.f 5 (by simp)
  have KJ2c6 : w2.cell? ⟨w.heap.size + 1 + 1, 6, none⟩ = some (.bool false) := KJ2.out.c 6 rfl
  have KJ2f6 : w2.frozen? ⟨w.heap.size + 1 + 1, 6, none⟩ = false := KJ2.out.f 6 (by simp)
  have KR2c0 : w2.cell? ⟨w.heap.size + 1 + 1 + 1, 0, none⟩ = some (.int .i64 0) := KR2.out.c 0 rfl
  have KR2f0 : w2.frozen? ⟨w.heap.size + 1 + 1 + 1, 0, none⟩ = false := KR2.out.f 0 (by simp)
  have KR2c1 : w2.cell? ⟨w.heap.size + 1 + 1 + 1, 1, none⟩ = some (.int .i64 0) := KR2.out.c 1 rfl
  have KR2f1 : w2.frozen? ⟨w.heap.size + 1 + 1 + 1, 1, none⟩ = false := KR2.out.f 1 (by simp)
  have KR2c2 : w2.cell? ⟨w.heap.size + 1 + 1 + 1, 2, none⟩ = some (.int .i64 0) := KR2.out.c 2 rfl
  have KR2f2 : w2.frozen? ⟨w.heap.size + 1 + 1 + 1, 2, none⟩ = false := KR2.out.f 2 (by simp)
  go_wp2
  exact bodyPost_ret (v := .tuple #[.agg zj, .agg zh, .int .i64 1]) (by simp [results, Try.results13, go_sem, KJ2c0, KJ2c1, KJ2c2, KJ2c3, KJ2c4, KJ2c5, KJ2c6, KR2c0, KR2c1, KR2c2]) rfl (RecvPost.mk (by repeat (first | with_reducible exact HB2x.out | with_reducible exact Below.refl _ _ | ((with_reducible refine Below.setCell ?_ ?_ _); rotate_left; focus (first | (simp; done) | (simp; omega) | omega)) | ((with_reducible refine Below.alloc ?_ ?_ _); rotate_left; focus (first | (simp; done) | (simp; omega) | omega)) | with_reducible refine Below.trans ?_ (below_drewN' _ _ _) | with_reducible refine Below.trans ?_ (below_drew _ _))))
set_option maxRecDepth 100000 in
set_option maxHeartbeats 8000000 in
theorem rrecv_agreeBad (c s m o k : Int) (y z : Int) (w : World) (hv : vld s m o k false = true) (ha : accB y = true) (hz : (z == prf c s m y false 1) = false)  : Calls Try.prog 13 #[.agg (jc c s m o k false false), .agg (hc3 2 y z)] w (RecvPost zj zh 17 w) := by
  have HA := Lib.hid ha
  have HZ := Lib.hid hz
  clear ha hz
  have HV := Lib.hid hv
  have KS := Lib.hid ((((Cs.new w (w.heap.size) (jc c s m o k false false) 23 (by simp)).alloc (.cells (hc3 2 y z) 25)).alloc (.cells zj 23)).alloc (.cells zh 25))
  have KH := Lib.hid (((Cs.new (w.alloc (.cells (jc c s m o k false false) 23)) (w.heap.size + 1) (hc3 2 y z) 25 (by simp)).alloc (.cells zj 23)).alloc (.cells zh 25))
  have KJ := Lib.hid ((Cs.new ((w.alloc (.cells (jc c s m o k false false) 23)).alloc (.cells (hc3 2 y z) 25)) (w.heap.size + 1 + 1) zj 23 (by simp)).alloc (.cells zh 25))
  have KR := Lib.hid (Cs.new (((w.alloc (.cells (jc c s m o k false false) 23)).alloc (.cells (hc3 2 y z) 25)).alloc (.cells zj 23)) (w.heap.size + 1 + 1 + 1) zh 25 (by simp))
  have HB0 := Lib.hid (show Below w.heap.size w ((((w.alloc (.cells (jc c s m o k false false) 23)).alloc (.cells (hc3 2 y z) 25)).alloc (.cells zj 23)).alloc (.cells zh 25)) from (by repeat (first | with_reducible exact Below.refl _ _ | with_reducible exact Below.refl _ _ | ((with_reducible refine Below.setCell ?_ ?_ _); rotate_left; focus (first | (simp; done) | (simp; omega) | omega)) | ((with_reducible refine Below.alloc ?_ ?_ _); rotate_left; focus (first | (simp; done) | (simp; omega) | omega)) | with_reducible refine Below.trans ?_ (below_drewN' _ _ _) | with_reducible refine Below.trans ?_ (below_drew _ _))))
  clear hv
  go_enter Try.func13, Try.ntmps13
  go_wp2_with fail
  refine (rvalid_at c s m o k false false true _ HV.out).mono ?_
  rintro e w1 ⟨rfl, b1⟩
  have KS1 := Lib.hid (KS.out.step b1)
  have KH1 := Lib.hid (KH.out.step b1)
  have KJ1 := Lib.hid (KJ.out.step b1)
  have KR1 := Lib.hid (KR.out.step b1)
  have HB1x := Lib.hid (HB0.out.trans (b1.mono (by simp; omega)))
  clear b1 KS KH KJ KR HB0
  have lt0w1 : w.heap.size < w1.heap.size := KS1.out.2.2
  have lt1w1 : w.heap.size + 1 < w1.heap.size := KH1.out.2.2
  have lt2w1 : w.heap.size + 1 + 1 < w1.heap.size := KJ1.out.2.2
  have lt3w1 : w.heap.size + 1 + 1 + 1 < w1.heap.size := KR1.out.2.2
  have KS1c0 : w1.cell? ⟨w.heap.size, 0, none⟩ = some (.int .i64 c) := KS1.out.c 0 rfl
  have KS1c1 : w1.cell? ⟨w.heap.size, 1, none⟩ = some (.int .i64 s) := KS1.out.c 1 rfl
  have KS1c2 : w1.cell? ⟨w.heap.size, 2, none⟩ = some (.int .i64 m) := KS1.out.c 2 rfl
  have KS1c3 : w1.cell? ⟨w.heap.size, 3, none⟩ = some (.int .i64 o) := KS1.out.c 3 rfl
  have KS1c4 : w1.cell? ⟨w.heap.size, 4, none⟩ = some (.int .i64 k) := KS1.out.c 4 rfl
  have KS1c5 : w1.cell? ⟨w.heap.size, 5, none⟩ = some (.bool false) := KS1.out.c 5 rfl
  have KS1c6 : w1.cell? ⟨w.heap.size, 6, none⟩ = some (.bool false) := KS1.out.c 6 rfl
  have KH1c0 : w1.cell? ⟨w.heap.size + 1, 0, none⟩ = some (.int .i64 2) := KH1.out.c 0 rfl
  have KH1c1 : w1.cell? ⟨w.heap.size + 1, 1, none⟩ = some (.int .i64 y) := KH1.out.c 1 rfl
  have KH1c2 : w1.cell? ⟨w.heap.size + 1, 2, none⟩ = some (.int .i64 z) := KH1.out.c 2 rfl
  go_wp2_with fail
  refine (expects_at c s m o k false false 2 true _ (rfl)).mono ?_
  rintro e w2 ⟨rfl, b2⟩
  clear KS1c0 KS1c1 KS1c2 KS1c3 KS1c4 KS1c5 KS1c6 KH1c0 KH1c1 KH1c2 lt0w1 lt1w1 lt2w1 lt3w1
  have KS2 := Lib.hid (KS1.out.step b2)
  have KH2 := Lib.hid (KH1.out.step b2)
  have KJ2 := Lib.hid (KJ1.out.step b2)
  have KR2 := Lib.hid (KR1.out.step b2)
  have HB2x := Lib.hid (keep2 b2 HB1x.out)
  clear b2 KS1 KH1 KJ1 KR1 HB1x
  have lt0w2 : w.heap.size < w2.heap.size := KS2.out.2.2
  have lt1w2 : w.heap.size + 1 < w2.heap.size := KH2.out.2.2
  have lt2w2 : w.heap.size + 1 + 1 < w2.heap.size := KJ2.out.2.2
  have lt3w2 : w.heap.size + 1 + 1 + 1 < w2.heap.size := KR2.out.2.2
  have KH2c0 : w2.cell? ⟨w.heap.size + 1, 0, none⟩ = some (.int .i64 2) := KH2.out.c 0 rfl
  have KH2c1 : w2.cell? ⟨w.heap.size + 1, 1, none⟩ = some (.int .i64 y) := KH2.out.c 1 rfl
  have KH2c2 : w2.cell? ⟨w.heap.size + 1, 2, none⟩ = some (.int .i64 z) := KH2.out.c 2 rfl
  go_wp2_with fail
  refine (racc_at y true _ HA.out).mono ?_
  rintro e w3 ⟨rfl, rfl⟩
  go_wp2_with fail
  have hS : (fun w' : World => Below w2.heap.size w2 w' ∧ w'.cell? ⟨w.heap.size, 0, none⟩ = some (.int .i64 c) ∧ w'.cell? ⟨w.heap.size, 1, none⟩ = some (.int .i64 s) ∧ w'.cell? ⟨w.heap.size, 2, none⟩ = some (.int .i64 m) ∧ w'.cell? ⟨w.heap.size, 3, none⟩ = some (.int .i64 o) ∧ w'.cell? ⟨w.heap.size, 4, none⟩ = some (.int .i64 k) ∧ w'.cell? ⟨w.heap.size, 5, none⟩ = some (.bool false) ∧ w'.cell? ⟨w.heap.size, 6, none⟩ = some (.bool false) ∧ w'.cell? ⟨w.heap.size + 1, 1, none⟩ = some (.int .i64 y) ∧ w'.cell? ⟨w.heap.size + 1, 2, none⟩ = some (.int .i64 z)) w2.drew := ⟨below_drew _ _, KS2.out.c 0 rfl, KS2.out.c 1 rfl, KS2.out.c 2 rfl, KS2.out.c 3 rfl, KS2.out.c 4 rfl, KS2.out.c 5 rfl, KS2.out.c 6 rfl, KH2.out.c 1 rfl, KH2.out.c 2 rfl⟩
  go_region_held3 (fun w' => Below w2.heap.size w2 w' ∧ w'.cell? ⟨w.heap.size, 0, none⟩ = some (.int .i64 c) ∧ w'.cell? ⟨w.heap.size, 1, none⟩ = some (.int .i64 s) ∧ w'.cell? ⟨w.heap.size, 2, none⟩ = some (.int .i64 m) ∧ w'.cell? ⟨w.heap.size, 3, none⟩ = some (.int .i64 o) ∧ w'.cell? ⟨w.heap.size, 4, none⟩ = some (.int .i64 k) ∧ w'.cell? ⟨w.heap.size, 5, none⟩ = some (.bool false) ∧ w'.cell? ⟨w.heap.size, 6, none⟩ = some (.bool false) ∧ w'.cell? ⟨w.heap.size + 1, 1, none⟩ = some (.int .i64 y) ∧ w'.cell? ⟨w.heap.size + 1, 2, none⟩ = some (.int .i64 z))
    (first | (go_split_ands; refine ⟨?_, ?_, ?_, ?_, ?_, ?_, ?_, ?_, ?_, ?_⟩ <;> first | assumption | exact keep1 hbq (by assumption) | exact keep2 hbq (by assumption)) | go_keep)
    (first | (go_at_call 29; refine (rproof_any c s m o k false false y 1 _).mono ?_; rintro e w' ⟨rfl, hbq⟩))
  have hS9 : Below w2.heap.size w2 w' ∧ w'.cell? ⟨w.heap.size, 0, none⟩ = some (.int .i64 c) ∧ w'.cell? ⟨w.heap.size, 1, none⟩ = some (.int .i64 s) ∧ w'.cell? ⟨w.heap.size, 2, none⟩ = some (.int .i64 m) ∧ w'.cell? ⟨w.heap.size, 3, none⟩ = some (.int .i64 o) ∧ w'.cell? ⟨w.heap.size, 4, none⟩ = some (.int .i64 k) ∧ w'.cell? ⟨w.heap.size, 5, none⟩ = some (.bool false) ∧ w'.cell? ⟨w.heap.size, 6, none⟩ = some (.bool false) ∧ w'.cell? ⟨w.heap.size + 1, 1, none⟩ = some (.int .i64 y) ∧ w'.cell? ⟨w.heap.size + 1, 2, none⟩ = some (.int .i64 z) := by first | assumption | exact ⟨by assumption, by assumption, by assumption, by assumption, by assumption, by assumption, by assumption, by assumption, by assumption, by assumption⟩
  have b3 := hS9.1
  clear hS9 KH2c0 KH2c1 KH2c2
  have HZ2 := Lib.hid (show (z != prf c s m y false 1) = true by have := HZ.out; simp only [bne, this]; rfl)
  have KS3 := Lib.hid (KS2.out.step b3)
  have KH3 := Lib.hid (KH2.out.step b3)
  have KJ3 := Lib.hid (KJ2.out.step b3)
  have KR3 := Lib.hid (KR2.out.step b3)
  have HB3x := Lib.hid (keep2 b3 HB2x.out)
  clear b3 KS2 KH2 KJ2 KR2 HB2x
  generalize w' = w3 at *
  have hz2 := HZ2.out
  have KJ3c0 : w3.cell? ⟨w.heap.size + 1 + 1, 0, none⟩ = some (.int .i64 0) := KJ3.out.c 0 rfl
  have KJ3f0 : w3.frozen? ⟨w.heap.size + 1 + 1, 0, none⟩ = false := KJ3.out.f 0 (by simp)
  have KJ3c1 : w3.cell? ⟨w.heap.size + 1 + 1, 1, none⟩ = some (.int .i64 0) := KJ3.out.c 1 rfl
  have KJ3f1 : w3.frozen? ⟨w.heap.size + 1 + 1, 1, none⟩ = false := KJ3.out.f 1 (by simp)
  have KJ3c2 : w3.cell? ⟨w.heap.size + 1 + 1, 2, none⟩ = some (.int .i64 0) := KJ3.out.c 2 rfl
  have KJ3f2 : w3.frozen? ⟨w.heap.size + 1 + 1, 2, none⟩ = false := KJ3.out.f 2 (by simp)
  have KJ3c3 : w3.cell? ⟨w.heap.size + 1 + 1, 3, none⟩ = some (.int .i64 0) := KJ3.out.c 3 rfl
  have KJ3f3 : w3.frozen? ⟨w.heap.size + 1 + 1, 3, none⟩ = false := KJ3.out.f 3 (by simp)
  have KJ3c4 : w3.cell? ⟨w.heap.size + 1 + 1, 4, none⟩ = some (.int .i64 0) := KJ3.out.c 4 rfl
  have KJ3f4 : w3.frozen? ⟨w.heap.size + 1 + 1, 4, none⟩ = false := KJ3.out.f 4 (by simp)
  have KJ3c5 : w3.cell? ⟨w.heap.size + 1 + 1, 5, none⟩ = some (.bool false) := KJ3.out.c 5 rfl
  have KJ3f5 : w3.frozen? ⟨w.heap.size + 1 + 1, 5, none⟩ = false := KJ3.out.f 5 (by simp)
  have KJ3c6 : w3.cell? ⟨w.heap.size + 1 + 1, 6, none⟩ = some (.bool false) := KJ3.out.c 6 rfl
  have KJ3f6 : w3.frozen? ⟨w.heap.size + 1 + 1, 6, none⟩ = false := KJ3.out.f 6 (by simp)
  have KR3c0 : w3.cell? ⟨w.heap.size + 1 + 1 + 1, 0, none⟩ = some (.int .i64 0) := KR3.out.c 0 rfl
  have KR3f0 : w3.frozen? ⟨w.heap.size + 1 + 1 + 1, 0, none⟩ = false := KR3.out.f 0 (by simp)
  have KR3c1 : w3.cell? ⟨w.heap.size + 1 + 1 + 1, 1, none⟩ = some (.int .i64 0) := KR3.out.c 1 rfl
  have KR3f1 : w3.frozen? ⟨w.heap.size + 1 + 1 + 1, 1, none⟩ = false := KR3.out.f 1 (by simp)
  have KR3c2 : w3.cell? ⟨w.heap.size + 1 + 1 + 1, 2, none⟩ = some (.int .i64 0) := KR3.out.c 2 rfl
  have KR3f2 : w3.frozen? ⟨w.heap.size + 1 + 1 + 1, 2, none⟩ = false := KR3.out.f 2 (by simp)
  go_wp2
  exact bodyPost_ret (v := .tuple #[.agg zj, .agg zh, .int .i64 17]) (by simp [results, Try.results13, go_sem, KJ3c0, KJ3c1, KJ3c2, KJ3c3, KJ3c4, KJ3c5, KJ3c6, KR3c0, KR3c1, KR3c2]) rfl (RecvPost.mk (by repeat (first | with_reducible exact HB3x.out | with_reducible exact Below.refl _ _ | ((with_reducible refine Below.setCell ?_ ?_ _); rotate_left; focus (first | (simp; done) | (simp; omega) | omega)) | ((with_reducible refine Below.alloc ?_ ?_ _); rotate_left; focus (first | (simp; done) | (simp; omega) | omega)) | with_reducible refine Below.trans ?_ (below_drewN' _ _ _) | with_reducible refine Below.trans ?_ (below_drew _ _))))
set_option maxRecDepth 100000 in
set_option maxHeartbeats 8000000 in
theorem rrecv_finBad (c s m o k : Int) (y z : Int) (w : World) (hv : vld s m o k false = true) (ho : (o != 0) = true) (hz : (z == prf c s m o true 2) = false)  : Calls Try.prog 13 #[.agg (jc c s m o k true false), .agg (hc3 3 y z)] w (RecvPost zj zh 17 w) := by
  have HO := Lib.hid ho
  have HZ := Lib.hid hz
  clear ho hz
  have HV := Lib.hid hv
  have KS := Lib.hid ((((Cs.new w (w.heap.size) (jc c s m o k true false) 23 (by simp)).alloc (.cells (hc3 3 y z) 25)).alloc (.cells zj 23)).alloc (.cells zh 25))
  have KH := Lib.hid (((Cs.new (w.alloc (.cells (jc c s m o k true false) 23)) (w.heap.size + 1) (hc3 3 y z) 25 (by simp)).alloc (.cells zj 23)).alloc (.cells zh 25))
  have KJ := Lib.hid ((Cs.new ((w.alloc (.cells (jc c s m o k true false) 23)).alloc (.cells (hc3 3 y z) 25)) (w.heap.size + 1 + 1) zj 23 (by simp)).alloc (.cells zh 25))
  have KR := Lib.hid (Cs.new (((w.alloc (.cells (jc c s m o k true false) 23)).alloc (.cells (hc3 3 y z) 25)).alloc (.cells zj 23)) (w.heap.size + 1 + 1 + 1) zh 25 (by simp))
  have HB0 := Lib.hid (show Below w.heap.size w ((((w.alloc (.cells (jc c s m o k true false) 23)).alloc (.cells (hc3 3 y z) 25)).alloc (.cells zj 23)).alloc (.cells zh 25)) from (by repeat (first | with_reducible exact Below.refl _ _ | with_reducible exact Below.refl _ _ | ((with_reducible refine Below.setCell ?_ ?_ _); rotate_left; focus (first | (simp; done) | (simp; omega) | omega)) | ((with_reducible refine Below.alloc ?_ ?_ _); rotate_left; focus (first | (simp; done) | (simp; omega) | omega)) | with_reducible refine Below.trans ?_ (below_drewN' _ _ _) | with_reducible refine Below.trans ?_ (below_drew _ _))))
  clear hv
  go_enter Try.func13, Try.ntmps13
  go_wp2_with fail
  refine (rvalid_at c s m o k true false true _ HV.out).mono ?_
  rintro e w1 ⟨rfl, b1⟩
  have KS1 := Lib.hid (KS.out.step b1)
  have KH1 := Lib.hid (KH.out.step b1)
  have KJ1 := Lib.hid (KJ.out.step b1)
  have KR1 := Lib.hid (KR.out.step b1)
  have HB1x := Lib.hid (HB0.out.trans (b1.mono (by simp; omega)))
  clear b1 KS KH KJ KR HB0
  have lt0w1 : w.heap.size < w1.heap.size := KS1.out.2.2
  have lt1w1 : w.heap.size + 1 < w1.heap.size := KH1.out.2.2
  have lt2w1 : w.heap.size + 1 + 1 < w1.heap.size := KJ1.out.2.2
  have lt3w1 : w.heap.size + 1 + 1 + 1 < w1.heap.size := KR1.out.2.2
  have KS1c0 : w1.cell? ⟨w.heap.size, 0, none⟩ = some (.int .i64 c) := KS1.out.c 0 rfl
  have KS1c1 : w1.cell? ⟨w.heap.size, 1, none⟩ = some (.int .i64 s) := KS1.out.c 1 rfl
  have KS1c2 : w1.cell? ⟨w.heap.size, 2, none⟩ = some (.int .i64 m) := KS1.out.c 2 rfl
  have KS1c3 : w1.cell? ⟨w.heap.size, 3, none⟩ = some (.int .i64 o) := KS1.out.c 3 rfl
  have KS1c4 : w1.cell? ⟨w.heap.size, 4, none⟩ = some (.int .i64 k) := KS1.out.c 4 rfl
  have KS1c5 : w1.cell? ⟨w.heap.size, 5, none⟩ = some (.bool true) := KS1.out.c 5 rfl
  have KS1c6 : w1.cell? ⟨w.heap.size, 6, none⟩ = some (.bool false) := KS1.out.c 6 rfl
  have KH1c0 : w1.cell? ⟨w.heap.size + 1, 0, none⟩ = some (.int .i64 3) := KH1.out.c 0 rfl
  have KH1c1 : w1.cell? ⟨w.heap.size + 1, 1, none⟩ = some (.int .i64 y) := KH1.out.c 1 rfl
  have KH1c2 : w1.cell? ⟨w.heap.size + 1, 2, none⟩ = some (.int .i64 z) := KH1.out.c 2 rfl
  go_wp2_with fail
  refine (expects_at c s m o k true false 3 true _ (by unfold expB; simp only [HO.out]; rfl)).mono ?_
  rintro e w2 ⟨rfl, b2⟩
  clear KS1c0 KS1c1 KS1c2 KS1c3 KS1c4 KS1c5 KS1c6 KH1c0 KH1c1 KH1c2 lt0w1 lt1w1 lt2w1 lt3w1
  have KS2 := Lib.hid (KS1.out.step b2)
  have KH2 := Lib.hid (KH1.out.step b2)
  have KJ2 := Lib.hid (KJ1.out.step b2)
  have KR2 := Lib.hid (KR1.out.step b2)
  have HB2x := Lib.hid (keep2 b2 HB1x.out)
  clear b2 KS1 KH1 KJ1 KR1 HB1x
  have lt0w2 : w.heap.size < w2.heap.size := KS2.out.2.2
  have lt1w2 : w.heap.size + 1 < w2.heap.size := KH2.out.2.2
  have lt2w2 : w.heap.size + 1 + 1 < w2.heap.size := KJ2.out.2.2
  have lt3w2 : w.heap.size + 1 + 1 + 1 < w2.heap.size := KR2.out.2.2
  have KH2c0 : w2.cell? ⟨w.heap.size + 1, 0, none⟩ = some (.int .i64 3) := KH2.out.c 0 rfl
  have KH2c1 : w2.cell? ⟨w.heap.size + 1, 1, none⟩ = some (.int .i64 y) := KH2.out.c 1 rfl
  have KH2c2 : w2.cell? ⟨w.heap.size + 1, 2, none⟩ = some (.int .i64 z) := KH2.out.c 2 rfl
  go_wp2_with fail
  have hS : (fun w' : World => Below w2.heap.size w2 w' ∧ w'.cell? ⟨w.heap.size, 0, none⟩ = some (.int .i64 c) ∧ w'.cell? ⟨w.heap.size, 1, none⟩ = some (.int .i64 s) ∧ w'.cell? ⟨w.heap.size, 2, none⟩ = some (.int .i64 m) ∧ w'.cell? ⟨w.heap.size, 3, none⟩ = some (.int .i64 o) ∧ w'.cell? ⟨w.heap.size, 4, none⟩ = some (.int .i64 k) ∧ w'.cell? ⟨w.heap.size, 5, none⟩ = some (.bool true) ∧ w'.cell? ⟨w.heap.size, 6, none⟩ = some (.bool false) ∧ w'.cell? ⟨w.heap.size + 1, 1, none⟩ = some (.int .i64 y) ∧ w'.cell? ⟨w.heap.size + 1, 2, none⟩ = some (.int .i64 z)) w2.drew := ⟨below_drew _ _, KS2.out.c 0 rfl, KS2.out.c 1 rfl, KS2.out.c 2 rfl, KS2.out.c 3 rfl, KS2.out.c 4 rfl, KS2.out.c 5 rfl, KS2.out.c 6 rfl, KH2.out.c 1 rfl, KH2.out.c 2 rfl⟩
  go_region_held3 (fun w' => Below w2.heap.size w2 w' ∧ w'.cell? ⟨w.heap.size, 0, none⟩ = some (.int .i64 c) ∧ w'.cell? ⟨w.heap.size, 1, none⟩ = some (.int .i64 s) ∧ w'.cell? ⟨w.heap.size, 2, none⟩ = some (.int .i64 m) ∧ w'.cell? ⟨w.heap.size, 3, none⟩ = some (.int .i64 o) ∧ w'.cell? ⟨w.heap.size, 4, none⟩ = some (.int .i64 k) ∧ w'.cell? ⟨w.heap.size, 5, none⟩ = some (.bool true) ∧ w'.cell? ⟨w.heap.size, 6, none⟩ = some (.bool false) ∧ w'.cell? ⟨w.heap.size + 1, 1, none⟩ = some (.int .i64 y) ∧ w'.cell? ⟨w.heap.size + 1, 2, none⟩ = some (.int .i64 z))
    (first | (go_split_ands; refine ⟨?_, ?_, ?_, ?_, ?_, ?_, ?_, ?_, ?_, ?_⟩ <;> first | assumption | exact keep1 hbq (by assumption) | exact keep2 hbq (by assumption)) | go_keep)
    (first | (go_at_call 29; refine (rproof_any c s m o k true false o 2 _).mono ?_; rintro e w' ⟨rfl, hbq⟩))
  have hS9 : Below w2.heap.size w2 w' ∧ w'.cell? ⟨w.heap.size, 0, none⟩ = some (.int .i64 c) ∧ w'.cell? ⟨w.heap.size, 1, none⟩ = some (.int .i64 s) ∧ w'.cell? ⟨w.heap.size, 2, none⟩ = some (.int .i64 m) ∧ w'.cell? ⟨w.heap.size, 3, none⟩ = some (.int .i64 o) ∧ w'.cell? ⟨w.heap.size, 4, none⟩ = some (.int .i64 k) ∧ w'.cell? ⟨w.heap.size, 5, none⟩ = some (.bool true) ∧ w'.cell? ⟨w.heap.size, 6, none⟩ = some (.bool false) ∧ w'.cell? ⟨w.heap.size + 1, 1, none⟩ = some (.int .i64 y) ∧ w'.cell? ⟨w.heap.size + 1, 2, none⟩ = some (.int .i64 z) := by first | assumption | exact ⟨by assumption, by assumption, by assumption, by assumption, by assumption, by assumption, by assumption, by assumption, by assumption, by assumption⟩
  have b3 := hS9.1
  clear hS9 KH2c0 KH2c1 KH2c2
  have HZ2 := Lib.hid (show (z != prf c s m o true 2) = true by have := HZ.out; simp only [bne, this]; rfl)
  have KS3 := Lib.hid (KS2.out.step b3)
  have KH3 := Lib.hid (KH2.out.step b3)
  have KJ3 := Lib.hid (KJ2.out.step b3)
  have KR3 := Lib.hid (KR2.out.step b3)
  have HB3x := Lib.hid (keep2 b3 HB2x.out)
  clear b3 KS2 KH2 KJ2 KR2 HB2x
  generalize w' = w3 at *
  have hz2 := HZ2.out
  have KJ3c0 : w3.cell? ⟨w.heap.size + 1 + 1, 0, none⟩ = some (.int .i64 0) := KJ3.out.c 0 rfl
  have KJ3f0 : w3.frozen? ⟨w.heap.size + 1 + 1, 0, none⟩ = false := KJ3.out.f 0 (by simp)
  have KJ3c1 : w3.cell? ⟨w.heap.size + 1 + 1, 1, none⟩ = some (.int .i64 0) := KJ3.out.c 1 rfl
  have KJ3f1 : w3.frozen? ⟨w.heap.size + 1 + 1, 1, none⟩ = false := KJ3.out.f 1 (by simp)
  have KJ3c2 : w3.cell? ⟨w.heap.size + 1 + 1, 2, none⟩ = some (.int .i64 0) := KJ3.out.c 2 rfl
  have KJ3f2 : w3.frozen? ⟨w.heap.size + 1 + 1, 2, none⟩ = false := KJ3.out.f 2 (by simp)
  have KJ3c3 : w3.cell? ⟨w.heap.size + 1 + 1, 3, none⟩ = some (.int .i64 0) := KJ3.out.c 3 rfl
  have KJ3f3 : w3.frozen? ⟨w.heap.size + 1 + 1, 3, none⟩ = false := KJ3.out.f 3 (by simp)
  have KJ3c4 : w3.cell? ⟨w.heap.size + 1 + 1, 4, none⟩ = some (.int .i64 0) := KJ3.out.c 4 rfl
  have KJ3f4 : w3.frozen? ⟨w.heap.size + 1 + 1, 4, none⟩ = false := KJ3.out.f 4 (by simp)
  have KJ3c5 : w3.cell? ⟨w.heap.size + 1 + 1, 5, none⟩ = some (.bool false) := KJ3.out.c 5 rfl
  have KJ3f5 : w3.frozen? ⟨w.heap.size + 1 + 1, 5, none⟩ = false := KJ3.out.f 5 (by simp)
  have KJ3c6 : w3.cell? ⟨w.heap.size + 1 + 1, 6, none⟩ = some (.bool false) := KJ3.out.c 6 rfl
  have KJ3f6 : w3.frozen? ⟨w.heap.size + 1 + 1, 6, none⟩ = false := KJ3.out.f 6 (by simp)
  have KR3c0 : w3.cell? ⟨w.heap.size + 1 + 1 + 1, 0, none⟩ = some (.int .i64 0) := KR3.out.c 0 rfl
  have KR3f0 : w3.frozen? ⟨w.heap.size + 1 + 1 + 1, 0, none⟩ = false := KR3.out.f 0 (by simp)
  have KR3c1 : w3.cell? ⟨w.heap.size + 1 + 1 + 1, 1, none⟩ = some (.int .i64 0) := KR3.out.c 1 rfl
  have KR3f1 : w3.frozen? ⟨w.heap.size + 1 + 1 + 1, 1, none⟩ = false := KR3.out.f 1 (by simp)
  have KR3c2 : w3.cell? ⟨w.heap.size + 1 + 1 + 1, 2, none⟩ = some (.int .i64 0) := KR3.out.c 2 rfl
  have KR3f2 : w3.frozen? ⟨w.heap.size + 1 + 1 + 1, 2, none⟩ = false := KR3.out.f 2 (by simp)
  go_wp2
  exact bodyPost_ret (v := .tuple #[.agg zj, .agg zh, .int .i64 17]) (by simp [results, Try.results13, go_sem, KJ3c0, KJ3c1, KJ3c2, KJ3c3, KJ3c4, KJ3c5, KJ3c6, KR3c0, KR3c1, KR3c2]) rfl (RecvPost.mk (by repeat (first | with_reducible exact HB3x.out | with_reducible exact Below.refl _ _ | ((with_reducible refine Below.setCell ?_ ?_ _); rotate_left; focus (first | (simp; done) | (simp; omega) | omega)) | ((with_reducible refine Below.alloc ?_ ?_ _); rotate_left; focus (first | (simp; done) | (simp; omega) | omega)) | with_reducible refine Below.trans ?_ (below_drewN' _ _ _) | with_reducible refine Below.trans ?_ (below_drew _ _))))
end Go.Proofs.Ytoggmladiakblaa
