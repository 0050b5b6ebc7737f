/- The contract of 'Receive': the ways that act. -/
import Derived.Test.YtoggmladiakblaaJf
namespace Go.Proofs.Ytoggmladiakblaa
open Go.RowKit

set_option maxRecDepth 100000 in
set_option maxHeartbeats 8000000 in
theorem recv_meetNo (c s m o k : Int) (y z : Int) (w : World) (hv : vld s m o k false = true) (ha : accB y = false)  : Calls Try.prog 12 #[.agg (jc c s m o k true false), .agg (hc3 1 y z)] w (RecvPost zj zh 1 w) := by
  have HA := Lib.hid ha
  clear ha
  have HV := Lib.hid hv
  have KH := Lib.hid ((((Cs.new (w.alloc (.cells (jc c s m o k true false) 23)) (w.heap.size + 1) (hc3 1 y z) 25 (by simp)).alloc (.cells zj 23)).alloc (.cells zh 25)).alloc (.cells (jc c s m o k true false) 48))
  have KJ := Lib.hid (((Cs.new ((w.alloc (.cells (jc c s m o k true false) 23)).alloc (.cells (hc3 1 y z) 25)) (w.heap.size + 1 + 1) zj 23 (by simp)).alloc (.cells zh 25)).alloc (.cells (jc c s m o k true false) 48))
  have KR := Lib.hid ((Cs.new (((w.alloc (.cells (jc c s m o k true false) 23)).alloc (.cells (hc3 1 y z) 25)).alloc (.cells zj 23)) (w.heap.size + 1 + 1 + 1) zh 25 (by simp)).alloc (.cells (jc c s m o k true false) 48))
  have KS := Lib.hid (Cs.new ((((w.alloc (.cells (jc c s m o k true false) 23)).alloc (.cells (hc3 1 y z) 25)).alloc (.cells zj 23)).alloc (.cells zh 25)) (w.heap.size + 1 + 1 + 1 + 1) (jc c s m o k true false) 48 (by simp))
  have HB0 := Lib.hid (show Below w.heap.size w (((((w.alloc (.cells (jc c s m o k true false) 23)).alloc (.cells (hc3 1 y z) 25)).alloc (.cells zj 23)).alloc (.cells zh 25)).alloc (.cells (jc c s m o k true false) 48)) from (by repeat (first | with_reducible exact Below.refl _ _ | with_reducible exact Below.refl _ _ | ((with_reducible refine Below.setCell ?_ ?_ _); rotate_left; focus (first | (simp; done) | (simp; omega) | omega)) | ((with_reducible refine Below.alloc ?_ ?_ _); rotate_left; focus (first | (simp; done) | (simp; omega) | omega)) | with_reducible refine Below.trans ?_ (below_drewN' _ _ _) | with_reducible refine Below.trans ?_ (below_drew _ _))))
  clear hv
  go_enter Try.func12, Try.ntmps12
  go_wp2_with fail
  refine (isValid_any (w.heap.size + 1 + 1 + 1 + 1) c s m o k true false _ KS.out).mono ?_
  rintro e w1 ⟨rfl, b1⟩
  rw [HV.out]
  have KH1 := Lib.hid (KH.out.step b1)
  have KJ1 := Lib.hid (KJ.out.step b1)
  have KR1 := Lib.hid (KR.out.step b1)
  have KS1 := Lib.hid (KS.out.step b1)
  have HB1 := Lib.hid (HB0.out.trans (b1.mono (by simp; omega)))
  clear b1 KH KJ KR KS HB0
  have lt1 : w.heap.size + 1 < w1.heap.size := KH1.out.2.2
  have lt2 : w.heap.size + 1 + 1 < w1.heap.size := KJ1.out.2.2
  have lt3 : w.heap.size + 1 + 1 + 1 < w1.heap.size := KR1.out.2.2
  have lt4 : w.heap.size + 1 + 1 + 1 + 1 < w1.heap.size := KS1.out.2.2
  have KS1c0 : w1.cell? ⟨w.heap.size + 1 + 1 + 1 + 1, 0, none⟩ = some (.int .i64 c) := KS1.out.c 0 rfl
  have KS1f0 : w1.frozen? ⟨w.heap.size + 1 + 1 + 1 + 1, 0, none⟩ = false := KS1.out.f 0 (by simp)
  have KS1c1 : w1.cell? ⟨w.heap.size + 1 + 1 + 1 + 1, 1, none⟩ = some (.int .i64 s) := KS1.out.c 1 rfl
  have KS1f1 : w1.frozen? ⟨w.heap.size + 1 + 1 + 1 + 1, 1, none⟩ = false := KS1.out.f 1 (by simp)
  have KS1c2 : w1.cell? ⟨w.heap.size + 1 + 1 + 1 + 1, 2, none⟩ = some (.int .i64 m) := KS1.out.c 2 rfl
  have KS1f2 : w1.frozen? ⟨w.heap.size + 1 + 1 + 1 + 1, 2, none⟩ = false := KS1.out.f 2 (by simp)
  have KS1c3 : w1.cell? ⟨w.heap.size + 1 + 1 + 1 + 1, 3, none⟩ = some (.int .i64 o) := KS1.out.c 3 rfl
  have KS1f3 : w1.frozen? ⟨w.heap.size + 1 + 1 + 1 + 1, 3, none⟩ = false := KS1.out.f 3 (by simp)
  have KS1c4 : w1.cell? ⟨w.heap.size + 1 + 1 + 1 + 1, 4, none⟩ = some (.int .i64 k) := KS1.out.c 4 rfl
  have KS1f4 : w1.frozen? ⟨w.heap.size + 1 + 1 + 1 + 1, 4, none⟩ = false := KS1.out.f 4 (by simp)
  have KS1c5 : w1.cell? ⟨w.heap.size + 1 + 1 + 1 + 1, 5, none⟩ = some (.bool true) := KS1.out.c 5 rfl
  have KS1f5 : w1.frozen? ⟨w.heap.size + 1 + 1 + 1 + 1, 5, none⟩ = false := KS1.out.f 5 (by simp)
  have KS1c6 : w1.cell? ⟨w.heap.size + 1 + 1 + 1 + 1, 6, none⟩ = some (.bool false) := KS1.out.c 6 rfl
  have KS1f6 : w1.frozen? ⟨w.heap.size + 1 + 1 + 1 + 1, 6, none⟩ = false := KS1.out.f 6 (by simp)
  have KH1c0 : w1.cell? ⟨w.heap.size + 1, 0, none⟩ = some (.int .i64 1) := KH1.out.c 0 rfl
  have KH1c1 : w1.cell? ⟨w.heap.size + 1, 1, none⟩ = some (.int .i64 y) := KH1.out.c 1 rfl
  have KH1c2 : w1.cell? ⟨w.heap.size + 1, 2, none⟩ = some (.int .i64 z) := KH1.out.c 2 rfl
  have lu1 : w.heap.size + 1 < w1.heap.size + 1 := by omega
  have lu4 : w.heap.size + 1 + 1 + 1 + 1 < w1.heap.size + 1 := by omega
  go_wp2_with fail
  have KA2 := Lib.hid ((Cs.new w1 w1.heap.size zh 25 rfl).alloc (.cells #[.bool true, .bool false, .int .i64 1] 50))
  have KJ2 := Lib.hid ((KJ1.out.alloc (.cells zh 25)).alloc (.cells #[.bool true, .bool false, .int .i64 1] 50))
  have KR2 := Lib.hid ((KR1.out.alloc (.cells zh 25)).alloc (.cells #[.bool true, .bool false, .int .i64 1] 50))
  have KS2 := Lib.hid ((KS1.out.alloc (.cells zh 25)).alloc (.cells #[.bool true, .bool false, .int .i64 1] 50))
  have HB2 := Lib.hid (show Below w.heap.size w ((w1.alloc (.cells zh 25)).alloc (.cells #[.bool true, .bool false, .int .i64 1] 50)) from (by repeat (first | with_reducible exact HB1.out | with_reducible exact Below.refl _ _ | ((with_reducible refine Below.setCell ?_ ?_ _); rotate_left; focus (first | (simp; done) | (simp; omega) | omega)) | ((with_reducible refine Below.alloc ?_ ?_ _); rotate_left; focus (first | (simp; done) | (simp; omega) | omega)) | with_reducible refine Below.trans ?_ (below_drewN' _ _ _) | with_reducible refine Below.trans ?_ (below_drew _ _))))
  clear KS1c0 KS1f0 KS1c1 KS1f1 KS1c2 KS1f2 KS1c3 KS1f3 KS1c4 KS1f4 KS1c5 KS1f5 KS1c6 KS1f6 KH1c0 KH1c1 KH1c2 KH1 KJ1 KR1 KS1 HB1
  generalize ((w1.alloc (.cells zh 25)).alloc (.cells #[.bool true, .bool false, .int .i64 1] 50)) = w2 at *
  refine (meet_no (w.heap.size + 1 + 1 + 1 + 1) c s m o k true false 1 y z _ KS2.out HA.out).mono ?_
  rintro e w3 ⟨rfl, ht⟩
  have HT := Lib.hid ht
  clear ht
  have KS3 := Lib.hid HT.out.1
  have KA3 := Lib.hid (HT.out.2.2 _ _ (by omega) KA2.out)
  have KJ3 := Lib.hid (HT.out.2.2 _ _ (by omega) KJ2.out)
  have KR3 := Lib.hid (HT.out.2.2 _ _ (by omega) KR2.out)
  have HB3 := Lib.hid (HB2.out.trans (HT.out.2.1.mono (by omega)))
  clear HT KA2 KJ2 KR2 KS2 HB2
  have KA3c0 : w3.cell? ⟨w1.heap.size, 0, none⟩ = some (.int .i64 0) := KA3.out.c 0 rfl
  have KA3f0 : w3.frozen? ⟨w1.heap.size, 0, none⟩ = false := KA3.out.f 0 (by simp)
  have KA3c1 : w3.cell? ⟨w1.heap.size, 1, none⟩ = some (.int .i64 0) := KA3.out.c 1 rfl
  have KA3f1 : w3.frozen? ⟨w1.heap.size, 1, none⟩ = false := KA3.out.f 1 (by simp)
  have KA3c2 : w3.cell? ⟨w1.heap.size, 2, none⟩ = some (.int .i64 0) := KA3.out.c 2 rfl
  have KA3f2 : w3.frozen? ⟨w1.heap.size, 2, none⟩ = false := KA3.out.f 2 (by simp)
  have KJ3c0 : w3.cell? ⟨w.heap.size + 1 + 1, 0, none⟩ = some (.int .i64 0) := KJ3.out.c 0 rfl
  have KJ3f0 : w3.frozen? ⟨w.heap.size + 1 + 1, 0, none⟩ = false := KJ3.out.f 0 (by simp)
  have KJ3c1 : w3.cell? ⟨w.heap.size + 1 + 1, 1, none⟩ = some (.int .i64 0) := KJ3.out.c 1 rfl
  have KJ3f1 : w3.frozen? ⟨w.heap.size + 1 + 1, 1, none⟩ = false := KJ3.out.f 1 (by simp)
  have KJ3c2 : w3.cell? ⟨w.heap.size + 1 + 1, 2, none⟩ = some (.int .i64 0) := KJ3.out.c 2 rfl
  have KJ3f2 : w3.frozen? ⟨w.heap.size + 1 + 1, 2, none⟩ = false := KJ3.out.f 2 (by simp)
  have KJ3c3 : w3.cell? ⟨w.heap.size + 1 + 1, 3, none⟩ = some (.int .i64 0) := KJ3.out.c 3 rfl
  have KJ3f3 : w3.frozen? ⟨w.heap.size + 1 + 1, 3, none⟩ = false := KJ3.out.f 3 (by simp)
  have KJ3c4 : w3.cell? ⟨w.heap.size + 1 + 1, 4, none⟩ = some (.int .i64 0) := KJ3.out.c 4 rfl
  have KJ3f4 : w3.frozen? ⟨w.heap.size + 1 + 1, 4, none⟩ = false := KJ3.out.f 4 (by simp)
  have KJ3c5 : w3.cell? ⟨w.heap.size + 1 + 1, 5, none⟩ = some (.bool false) := KJ3.out.c 5 rfl
  have KJ3f5 : w3.frozen? ⟨w.heap.size + 1 + 1, 5, none⟩ = false := KJ3.out.f 5 (by simp)
  have KJ3c6 : w3.cell? ⟨w.heap.size + 1 + 1, 6, none⟩ = some (.bool false) := KJ3.out.c 6 rfl
  have KJ3f6 : w3.frozen? ⟨w.heap.size + 1 + 1, 6, none⟩ = false := KJ3.out.f 6 (by simp)
  have KR3c0 : w3.cell? ⟨w.heap.size + 1 + 1 + 1, 0, none⟩ = some (.int .i64 0) := KR3.out.c 0 rfl
  have KR3f0 : w3.frozen? ⟨w.heap.size + 1 + 1 + 1, 0, none⟩ = false := KR3.out.f 0 (by simp)
  have KR3c1 : w3.cell? ⟨w.heap.size + 1 + 1 + 1, 1, none⟩ = some (.int .i64 0) := KR3.out.c 1 rfl
  have KR3f1 : w3.frozen? ⟨w.heap.size + 1 + 1 + 1, 1, none⟩ = false := KR3.out.f 1 (by simp)
  have KR3c2 : w3.cell? ⟨w.heap.size + 1 + 1 + 1, 2, none⟩ = some (.int .i64 0) := KR3.out.c 2 rfl
  have KR3f2 : w3.frozen? ⟨w.heap.size + 1 + 1 + 1, 2, none⟩ = false := KR3.out.f 2 (by simp)
  go_wp2
  exact bodyPost_ret (v := .tuple #[.agg zj, .agg zh, .int .i64 1]) (by simp [results, Try.results12, go_sem, KJ3c0, KJ3c1, KJ3c2, KJ3c3, KJ3c4, KJ3c5, KJ3c6, KR3c0, KR3c1, KR3c2]) rfl (RecvPost.mk (by repeat (first | with_reducible exact HB3.out | with_reducible exact Below.refl _ _ | ((with_reducible refine Below.setCell ?_ ?_ _); rotate_left; focus (first | (simp; done) | (simp; omega) | omega)) | ((with_reducible refine Below.alloc ?_ ?_ _); rotate_left; focus (first | (simp; done) | (simp; omega) | omega)) | with_reducible refine Below.trans ?_ (below_drewN' _ _ _) | with_reducible refine Below.trans ?_ (below_drew _ _))))
set_option maxRecDepth 100000 in
set_option maxHeartbeats 8000000 in
theorem recv_meet (c s m o k : Int) (y z : Int) (w : World) (hv : vld s m o k false = true) (ha : accB y = true)  : Calls Try.prog 12 #[.agg (jc c s m o k true false), .agg (hc3 1 y z)] w (RecvPost (jc c s m y k true false) (hc3 2 m (prf c s m y true 1)) 0 w) := by
  have HA := Lib.hid ha
  clear ha
  have HV := Lib.hid hv
  have KH := Lib.hid ((((Cs.new (w.alloc (.cells (jc c s m o k true false) 23)) (w.heap.size + 1) (hc3 1 y z) 25 (by simp)).alloc (.cells zj 23)).alloc (.cells zh 25)).alloc (.cells (jc c s m o k true false) 48))
  have KJ := Lib.hid (((Cs.new ((w.alloc (.cells (jc c s m o k true false) 23)).alloc (.cells (hc3 1 y z) 25)) (w.heap.size + 1 + 1) zj 23 (by simp)).alloc (.cells zh 25)).alloc (.cells (jc c s m o k true false) 48))
  have KR := Lib.hid ((Cs.new (((w.alloc (.cells (jc c s m o k true false) 23)).alloc (.cells (hc3 1 y z) 25)).alloc (.cells zj 23)) (w.heap.size + 1 + 1 + 1) zh 25 (by simp)).alloc (.cells (jc c s m o k true false) 48))
  have KS := Lib.hid (Cs.new ((((w.alloc (.cells (jc c s m o k true false) 23)).alloc (.cells (hc3 1 y z) 25)).alloc (.cells zj 23)).alloc (.cells zh 25)) (w.heap.size + 1 + 1 + 1 + 1) (jc c s m o k true false) 48 (by simp))
  have HB0 := Lib.hid (show Below w.heap.size w (((((w.alloc (.cells (jc c s m o k true false) 23)).alloc (.cells (hc3 1 y z) 25)).alloc (.cells zj 23)).alloc (.cells zh 25)).alloc (.cells (jc c s m o k true false) 48)) from (by repeat (first | with_reducible exact Below.refl _ _ | with_reducible exact Below.refl _ _ | ((with_reducible refine Below.setCell ?_ ?_ _); rotate_left; focus (first | (simp; done) | (simp; omega) | omega)) | ((with_reducible refine Below.alloc ?_ ?_ _); rotate_left; focus (first | (simp; done) | (simp; omega) | omega)) | with_reducible refine Below.trans ?_ (below_drewN' _ _ _) | with_reducible refine Below.trans ?_ (below_drew _ _))))
  clear hv
  go_enter Try.func12, Try.ntmps12
  go_wp2_with fail
  refine (isValid_any (w.heap.size + 1 + 1 + 1 + 1) c s m o k true false _ KS.out).mono ?_
  rintro e w1 ⟨rfl, b1⟩
  rw [HV.out]
  have KH1 := Lib.hid (KH.out.step b1)
  have KJ1 := Lib.hid (KJ.out.step b1)
  have KR1 := Lib.hid (KR.out.step b1)
  have KS1 := Lib.hid (KS.out.step b1)
  have HB1 := Lib.hid (HB0.out.trans (b1.mono (by simp; omega)))
  clear b1 KH KJ KR KS HB0
  have lt1 : w.heap.size + 1 < w1.heap.size := KH1.out.2.2
  have lt2 : w.heap.size + 1 + 1 < w1.heap.size := KJ1.out.2.2
  have lt3 : w.heap.size + 1 + 1 + 1 < w1.heap.size := KR1.out.2.2
  have lt4 : w.heap.size + 1 + 1 + 1 + 1 < w1.heap.size := KS1.out.2.2
  have KS1c0 : w1.cell? ⟨w.heap.size + 1 + 1 + 1 + 1, 0, none⟩ = some (.int .i64 c) := KS1.out.c 0 rfl
  have KS1f0 : w1.frozen? ⟨w.heap.size + 1 + 1 + 1 + 1, 0, none⟩ = false := KS1.out.f 0 (by simp)
  have KS1c1 : w1.cell? ⟨w.heap.size + 1 + 1 + 1 + 1, 1, none⟩ = some (.int .i64 s) := KS1.out.c 1 rfl
  have KS1f1 : w1.frozen? ⟨w.heap.size + 1 + 1 + 1 + 1, 1, none⟩ = false := KS1.out.f 1 (by simp)
  have KS1c2 : w1.cell? ⟨w.heap.size + 1 + 1 + 1 + 1, 2, none⟩ = some (.int .i64 m) := KS1.out.c 2 rfl
  have KS1f2 : w1.frozen? ⟨w.heap.size + 1 + 1 + 1 + 1, 2, none⟩ = false := KS1.out.f 2 (by simp)
  have KS1c3 : w1.cell? ⟨w.heap.size + 1 + 1 + 1 + 1, 3, none⟩ = some (.int .i64 o) := KS1.out.c 3 rfl
  have KS1f3 : w1.frozen? ⟨w.heap.size + 1 + 1 + 1 + 1, 3, none⟩ = false := KS1.out.f 3 (by simp)
  have KS1c4 : w1.cell? ⟨w.heap.size + 1 + 1 + 1 + 1, 4, none⟩ = some (.int .i64 k) := KS1.out.c 4 rfl
  have KS1f4 : w1.frozen? ⟨w.heap.size + 1 + 1 + 1 + 1, 4, none⟩ = false := KS1.out.f 4 (by simp)
  have KS1c5 : w1.cell? ⟨w.heap.size + 1 + 1 + 1 + 1, 5, none⟩ = some (.bool true) := KS1.out.c 5 rfl
  have KS1f5 : w1.frozen? ⟨w.heap.size + 1 + 1 + 1 + 1, 5, none⟩ = false := KS1.out.f 5 (by simp)
  have KS1c6 : w1.cell? ⟨w.heap.size + 1 + 1 + 1 + 1, 6, none⟩ = some (.bool false) := KS1.out.c 6 rfl
  have KS1f6 : w1.frozen? ⟨w.heap.size + 1 + 1 + 1 + 1, 6, none⟩ = false := KS1.out.f 6 (by simp)
  have KH1c0 : w1.cell? ⟨w.heap.size + 1, 0, none⟩ = some (.int .i64 1) := KH1.out.c 0 rfl
  have KH1c1 : w1.cell? ⟨w.heap.size + 1, 1, none⟩ = some (.int .i64 y) := KH1.out.c 1 rfl
  have KH1c2 : w1.cell? ⟨w.heap.size + 1, 2, none⟩ = some (.int .i64 z) := KH1.out.c 2 rfl
  have lu1 : w.heap.size + 1 < w1.heap.size + 1 := by omega
  have lu4 : w.heap.size + 1 + 1 + 1 + 1 < w1.heap.size + 1 := by omega
  go_wp2_with fail
  have KA2 := Lib.hid ((Cs.new w1 w1.heap.size zh 25 rfl).alloc (.cells #[.bool true, .bool false, .int .i64 1] 50))
  have KJ2 := Lib.hid ((KJ1.out.alloc (.cells zh 25)).alloc (.cells #[.bool true, .bool false, .int .i64 1] 50))
  have KR2 := Lib.hid ((KR1.out.alloc (.cells zh 25)).alloc (.cells #[.bool true, .bool false, .int .i64 1] 50))
  have KS2 := Lib.hid ((KS1.out.alloc (.cells zh 25)).alloc (.cells #[.bool true, .bool false, .int .i64 1] 50))
  have HB2 := Lib.hid (show Below w.heap.size w ((w1.alloc (.cells zh 25)).alloc (.cells #[.bool true, .bool false, .int .i64 1] 50)) from (by repeat (first | with_reducible exact HB1.out | with_reducible exact Below.refl _ _ | ((with_reducible refine Below.setCell ?_ ?_ _); rotate_left; focus (first | (simp; done) | (simp; omega) | omega)) | ((with_reducible refine Below.alloc ?_ ?_ _); rotate_left; focus (first | (simp; done) | (simp; omega) | omega)) | with_reducible refine Below.trans ?_ (below_drewN' _ _ _) | with_reducible refine Below.trans ?_ (below_drew _ _))))
  clear KS1c0 KS1f0 KS1c1 KS1f1 KS1c2 KS1f2 KS1c3 KS1f3 KS1c4 KS1f4 KS1c5 KS1f5 KS1c6 KS1f6 KH1c0 KH1c1 KH1c2 KH1 KJ1 KR1 KS1 HB1
  generalize ((w1.alloc (.cells zh 25)).alloc (.cells #[.bool true, .bool false, .int .i64 1] 50)) = w2 at *
  refine (meet_yes (w.heap.size + 1 + 1 + 1 + 1) c s m o k true false 1 y z _ KS2.out HA.out).mono ?_
  rintro e w3 ⟨rfl, ht⟩
  have HT := Lib.hid ht
  clear ht
  have KS3 := Lib.hid HT.out.1
  have KA3 := Lib.hid (HT.out.2.2 _ _ (by omega) KA2.out)
  have KJ3 := Lib.hid (HT.out.2.2 _ _ (by omega) KJ2.out)
  have KR3 := Lib.hid (HT.out.2.2 _ _ (by omega) KR2.out)
  have HB3 := Lib.hid (HB2.out.trans (HT.out.2.1.mono (by omega)))
  clear HT KA2 KJ2 KR2 KS2 HB2
  have KA3c0 : w3.cell? ⟨w1.heap.size, 0, none⟩ = some (.int .i64 0) := KA3.out.c 0 rfl
  have KA3f0 : w3.frozen? ⟨w1.heap.size, 0, none⟩ = false := KA3.out.f 0 (by simp)
  have KA3c1 : w3.cell? ⟨w1.heap.size, 1, none⟩ = some (.int .i64 0) := KA3.out.c 1 rfl
  have KA3f1 : w3.frozen? ⟨w1.heap.size, 1, none⟩ = false := KA3.out.f 1 (by simp)
  have KA3c2 : w3.cell? ⟨w1.heap.size, 2, none⟩ = some (.int .i64 0) := KA3.out.c 2 rfl
  have KA3f2 : w3.frozen? ⟨w1.heap.size, 2, none⟩ = false := KA3.out.f 2 (by simp)
  go_wp2_with fail
  have KA4 := Lib.hid ((((KA3.out).set 0 (by simp) (.int .i64 2) (vs' := #[.int .i64 2, .int .i64 0, .int .i64 0]) rfl).set 1 (by simp) (.int .i64 m) (vs' := #[.int .i64 2, .int .i64 m, .int .i64 0]) rfl).set 2 (by simp) (.int .i64 (prf c s m y true 1)) (vs' := #[.int .i64 2, .int .i64 m, .int .i64 (prf c s m y true 1)]) rfl)
  have KS4 := Lib.hid ((((KS3.out).other (b := w1.heap.size) (by omega) 0 (.int .i64 2)).other (b := w1.heap.size) (by omega) 1 (.int .i64 m)).other (b := w1.heap.size) (by omega) 2 (.int .i64 (prf c s m y true 1)))
  have KJ4 := Lib.hid ((((KJ3.out).other (b := w1.heap.size) (by omega) 0 (.int .i64 2)).other (b := w1.heap.size) (by omega) 1 (.int .i64 m)).other (b := w1.heap.size) (by omega) 2 (.int .i64 (prf c s m y true 1)))
  have KR4 := Lib.hid ((((KR3.out).other (b := w1.heap.size) (by omega) 0 (.int .i64 2)).other (b := w1.heap.size) (by omega) 1 (.int .i64 m)).other (b := w1.heap.size) (by omega) 2 (.int .i64 (prf c s m y true 1)))
  have HB4 := Lib.hid (show Below w.heap.size w (((w3.setCell ⟨w1.heap.size, 0, none⟩ (.int .i64 2)).setCell ⟨w1.heap.size, 1, none⟩ (.int .i64 m)).setCell ⟨w1.heap.size, 2, none⟩ (.int .i64 (prf c s m y true 1))) from (by repeat (first | with_reducible exact HB3.out | with_reducible exact Below.refl _ _ | ((with_reducible refine Below.setCell ?_ ?_ _); rotate_left; focus (first | (simp; done) | (simp; omega) | omega)) | ((with_reducible refine Below.alloc ?_ ?_ _); rotate_left; focus (first | (simp; done) | (simp; omega) | omega)) | with_reducible refine Below.trans ?_ (below_drewN' _ _ _) | with_reducible refine Below.trans ?_ (below_drew _ _))))
  clear KA3c0 KA3f0 KA3c1 KA3f1 KA3c2 KA3f2 KA3 KS3 KJ3 KR3 HB3
  generalize (((w3.setCell ⟨w1.heap.size, 0, none⟩ (.int .i64 2)).setCell ⟨w1.heap.size, 1, none⟩ (.int .i64 m)).setCell ⟨w1.heap.size, 2, none⟩ (.int .i64 (prf c s m y true 1))) = w4 at *
  have KS4c0 : w4.cell? ⟨w.heap.size + 1 + 1 + 1 + 1, 0, none⟩ = some (.int .i64 c) := KS4.out.c 0 rfl
  have KS4c1 : w4.cell? ⟨w.heap.size + 1 + 1 + 1 + 1, 1, none⟩ = some (.int .i64 s) := KS4.out.c 1 rfl
  have KS4c2 : w4.cell? ⟨w.heap.size + 1 + 1 + 1 + 1, 2, none⟩ = some (.int .i64 m) := KS4.out.c 2 rfl
  have KS4c3 : w4.cell? ⟨w.heap.size + 1 + 1 + 1 + 1, 3, none⟩ = some (.int .i64 y) := KS4.out.c 3 rfl
  have KS4c4 : w4.cell? ⟨w.heap.size + 1 + 1 + 1 + 1, 4, none⟩ = some (.int .i64 k) := KS4.out.c 4 rfl
  have KS4c5 : w4.cell? ⟨w.heap.size + 1 + 1 + 1 + 1, 5, none⟩ = some (.bool true) := KS4.out.c 5 rfl
  have KS4c6 : w4.cell? ⟨w.heap.size + 1 + 1 + 1 + 1, 6, none⟩ = some (.bool false) := KS4.out.c 6 rfl
  have KA4c0 : w4.cell? ⟨w1.heap.size, 0, none⟩ = some (.int .i64 2) := KA4.out.c 0 rfl
  have KA4c1 : w4.cell? ⟨w1.heap.size, 1, none⟩ = some (.int .i64 m) := KA4.out.c 1 rfl
  have KA4c2 : w4.cell? ⟨w1.heap.size, 2, none⟩ = some (.int .i64 (prf c s m y true 1)) := KA4.out.c 2 rfl
  have KJ4c0 : w4.cell? ⟨w.heap.size + 1 + 1, 0, none⟩ = some (.int .i64 0) := KJ4.out.c 0 rfl
  have KJ4f0 : w4.frozen? ⟨w.heap.size + 1 + 1, 0, none⟩ = false := KJ4.out.f 0 (by simp)
  have KJ4c1 : w4.cell? ⟨w.heap.size + 1 + 1, 1, none⟩ = some (.int .i64 0) := KJ4.out.c 1 rfl
  have KJ4f1 : w4.frozen? ⟨w.heap.size + 1 + 1, 1, none⟩ = false := KJ4.out.f 1 (by simp)
  have KJ4c2 : w4.cell? ⟨w.heap.size + 1 + 1, 2, none⟩ = some (.int .i64 0) := KJ4.out.c 2 rfl
  have KJ4f2 : w4.frozen? ⟨w.heap.size + 1 + 1, 2, none⟩ = false := KJ4.out.f 2 (by simp)
  have KJ4c3 : w4.cell? ⟨w.heap.size + 1 + 1, 3, none⟩ = some (.int .i64 0) := KJ4.out.c 3 rfl
  have KJ4f3 : w4.frozen? ⟨w.heap.size + 1 + 1, 3, none⟩ = false := KJ4.out.f 3 (by simp)
  have KJ4c4 : w4.cell? ⟨w.heap.size + 1 + 1, 4, none⟩ = some (.int .i64 0) := KJ4.out.c 4 rfl
  have KJ4f4 : w4.frozen? ⟨w.heap.size + 1 + 1, 4, none⟩ = false := KJ4.out.f 4 (by simp)
  have KJ4c5 : w4.cell? ⟨w.heap.size + 1 + 1, 5, none⟩ = some (.bool false) := KJ4.out.c 5 rfl
  have KJ4f5 : w4.frozen? ⟨w.heap.size + 1 + 1, 5, none⟩ = false := KJ4.out.f 5 (by simp)
  have KJ4c6 : w4.cell? ⟨w.heap.size + 1 + 1, 6, none⟩ = some (.bool false) := KJ4.out.c 6 rfl
  have KJ4f6 : w4.frozen? ⟨w.heap.size + 1 + 1, 6, none⟩ = false := KJ4.out.f 6 (by simp)
  have KR4c0 : w4.cell? ⟨w.heap.size + 1 + 1 + 1, 0, none⟩ = some (.int .i64 0) := KR4.out.c 0 rfl
  have KR4f0 : w4.frozen? ⟨w.heap.size + 1 + 1 + 1, 0, none⟩ = false := KR4.out.f 0 (by simp)
  have KR4c1 : w4.cell? ⟨w.heap.size + 1 + 1 + 1, 1, none⟩ = some (.int .i64 0) := KR4.out.c 1 rfl
  have KR4f1 : w4.frozen? ⟨w.heap.size + 1 + 1 + 1, 1, none⟩ = false := KR4.out.f 1 (by simp)
  have KR4c2 : w4.cell? ⟨w.heap.size + 1 + 1 + 1, 2, none⟩ = some (.int .i64 0) := KR4.out.c 2 rfl
  have KR4f2 : w4.frozen? ⟨w.heap.size + 1 + 1 + 1, 2, none⟩ = false := KR4.out.f 2 (by simp)
  go_region
  all_goals go_wp2
  all_goals exact bodyPost_ret (v := .tuple #[.agg (jc c s m y k true false), .agg (hc3 2 m (prf c s m y true 1)), .int .i64 0]) (by simp [results, Try.results12, go_sem, KJ4c0, KJ4c1, KJ4c2, KJ4c3, KJ4c4, KJ4c5, KJ4c6, KR4c0, KR4c1, KR4c2]) rfl (RecvPost.mk (by repeat (first | with_reducible exact HB4.out | with_reducible exact Below.refl _ _ | ((with_reducible refine Below.setCell ?_ ?_ _); rotate_left; focus (first | (simp; done) | (simp; omega) | omega)) | ((with_reducible refine Below.alloc ?_ ?_ _); rotate_left; focus (first | (simp; done) | (simp; omega) | omega)) | with_reducible refine Below.trans ?_ (below_drewN' _ _ _) | with_reducible refine Below.trans ?_ (below_drew _ _))))
set_option maxRecDepth 100000 in
set_option maxHeartbeats 8000000 in
theorem recv_agreeNo (c s m o k : Int) (y z : Int) (w : World) (hv : vld s m o k false = true) (ha : accB y = false)  : Calls Try.prog 12 #[.agg (jc c s m o k false false), .agg (hc3 2 y z)] w (RecvPost zj zh 1 w) := by
  have HA := Lib.hid ha
  clear ha
  have HV := Lib.hid hv
  have KH := Lib.hid ((((Cs.new (w.alloc (.cells (jc c s m o k false false) 23)) (w.heap.size + 1) (hc3 2 y z) 25 (by simp)).alloc (.cells zj 23)).alloc (.cells zh 25)).alloc (.cells (jc c s m o k false false) 48))
  have KJ := Lib.hid (((Cs.new ((w.alloc (.cells (jc c s m o k false false) 23)).alloc (.cells (hc3 2 y z) 25)) (w.heap.size + 1 + 1) zj 23 (by simp)).alloc (.cells zh 25)).alloc (.cells (jc c s m o k false false) 48))
  have KR := Lib.hid ((Cs.new (((w.alloc (.cells (jc c s m o k false false) 23)).alloc (.cells (hc3 2 y z) 25)).alloc (.cells zj 23)) (w.heap.size + 1 + 1 + 1) zh 25 (by simp)).alloc (.cells (jc c s m o k false false) 48))
  have KS := Lib.hid (Cs.new ((((w.alloc (.cells (jc c s m o k false false) 23)).alloc (.cells (hc3 2 y z) 25)).alloc (.cells zj 23)).alloc (.cells zh 25)) (w.heap.size + 1 + 1 + 1 + 1) (jc c s m o k false false) 48 (by simp))
  have HB0 := Lib.hid (show Below w.heap.size w (((((w.alloc (.cells (jc c s m o k false false) 23)).alloc (.cells (hc3 2 y z) 25)).alloc (.cells zj 23)).alloc (.cells zh 25)).alloc (.cells (jc c s m o k false false) 48)) from (by repeat (first | with_reducible exact Below.refl _ _ | with_reducible exact Below.refl _ _ | ((with_reducible refine Below.setCell ?_ ?_ _); rotate_left; focus (first | (simp; done) | (simp; omega) | omega)) | ((with_reducible refine Below.alloc ?_ ?_ _); rotate_left; focus (first | (simp; done) | (simp; omega) | omega)) | with_reducible refine Below.trans ?_ (below_drewN' _ _ _) | with_reducible refine Below.trans ?_ (below_drew _ _))))
  clear hv
  go_enter Try.func12, Try.ntmps12
  go_wp2_with fail
  refine (isValid_any (w.heap.size + 1 + 1 + 1 + 1) c s m o k false false _ KS.out).mono ?_
  rintro e w1 ⟨rfl, b1⟩
  rw [HV.out]
  have KH1 := Lib.hid (KH.out.step b1)
  have KJ1 := Lib.hid (KJ.out.step b1)
  have KR1 := Lib.hid (KR.out.step b1)
  have KS1 := Lib.hid (KS.out.step b1)
  have HB1 := Lib.hid (HB0.out.trans (b1.mono (by simp; omega)))
  clear b1 KH KJ KR KS HB0
  have lt1 : w.heap.size + 1 < w1.heap.size := KH1.out.2.2
  have lt2 : w.heap.size + 1 + 1 < w1.heap.size := KJ1.out.2.2
  have lt3 : w.heap.size + 1 + 1 + 1 < w1.heap.size := KR1.out.2.2
  have lt4 : w.heap.size + 1 + 1 + 1 + 1 < w1.heap.size := KS1.out.2.2
  have KS1c0 : w1.cell? ⟨w.heap.size + 1 + 1 + 1 + 1, 0, none⟩ = some (.int .i64 c) := KS1.out.c 0 rfl
  have KS1f0 : w1.frozen? ⟨w.heap.size + 1 + 1 + 1 + 1, 0, none⟩ = false := KS1.out.f 0 (by simp)
  have KS1c1 : w1.cell? ⟨w.heap.size + 1 + 1 + 1 + 1, 1, none⟩ = some (.int .i64 s) := KS1.out.c 1 rfl
  have KS1f1 : w1.frozen? ⟨w.heap.size + 1 + 1 + 1 + 1, 1, none⟩ = false := KS1.out.f 1 (by simp)
  have KS1c2 : w1.cell? ⟨w.heap.size + 1 + 1 + 1 + 1, 2, none⟩ = some (.int .i64 m) := KS1.out.c 2 rfl
  have KS1f2 : w1.frozen? ⟨w.heap.size + 1 + 1 + 1 + 1, 2, none⟩ = false := KS1.out.f 2 (by simp)
  have KS1c3 : w1.cell? ⟨w.heap.size + 1 + 1 + 1 + 1, 3, none⟩ = some (.int .i64 o) := KS1.out.c 3 rfl
  have KS1f3 : w1.frozen? ⟨w.heap.size + 1 + 1 + 1 + 1, 3, none⟩ = false := KS1.out.f 3 (by simp)
  have KS1c4 : w1.cell? ⟨w.heap.size + 1 + 1 + 1 + 1, 4, none⟩ = some (.int .i64 k) := KS1.out.c 4 rfl
  have KS1f4 : w1.frozen? ⟨w.heap.size + 1 + 1 + 1 + 1, 4, none⟩ = false := KS1.out.f 4 (by simp)
  have KS1c5 : w1.cell? ⟨w.heap.size + 1 + 1 + 1 + 1, 5, none⟩ = some (.bool false) := KS1.out.c 5 rfl
  have KS1f5 : w1.frozen? ⟨w.heap.size + 1 + 1 + 1 + 1, 5, none⟩ = false := KS1.out.f 5 (by simp)
  have KS1c6 : w1.cell? ⟨w.heap.size + 1 + 1 + 1 + 1, 6, none⟩ = some (.bool false) := KS1.out.c 6 rfl
  have KS1f6 : w1.frozen? ⟨w.heap.size + 1 + 1 + 1 + 1, 6, none⟩ = false := KS1.out.f 6 (by simp)
  have KH1c0 : w1.cell? ⟨w.heap.size + 1, 0, none⟩ = some (.int .i64 2) := KH1.out.c 0 rfl
  have KH1c1 : w1.cell? ⟨w.heap.size + 1, 1, none⟩ = some (.int .i64 y) := KH1.out.c 1 rfl
  have KH1c2 : w1.cell? ⟨w.heap.size + 1, 2, none⟩ = some (.int .i64 z) := KH1.out.c 2 rfl
  have lu1 : w.heap.size + 1 < w1.heap.size + 1 := by omega
  have lu4 : w.heap.size + 1 + 1 + 1 + 1 < w1.heap.size + 1 := by omega
  go_wp2_with fail
  have KA2 := Lib.hid ((Cs.new w1 w1.heap.size zh 25 rfl).alloc (.cells #[.bool false, .bool false, .int .i64 2] 50))
  have KJ2 := Lib.hid ((KJ1.out.alloc (.cells zh 25)).alloc (.cells #[.bool false, .bool false, .int .i64 2] 50))
  have KR2 := Lib.hid ((KR1.out.alloc (.cells zh 25)).alloc (.cells #[.bool false, .bool false, .int .i64 2] 50))
  have KS2 := Lib.hid ((KS1.out.alloc (.cells zh 25)).alloc (.cells #[.bool false, .bool false, .int .i64 2] 50))
  have HB2 := Lib.hid (show Below w.heap.size w ((w1.alloc (.cells zh 25)).alloc (.cells #[.bool false, .bool false, .int .i64 2] 50)) from (by repeat (first | with_reducible exact HB1.out | with_reducible exact Below.refl _ _ | ((with_reducible refine Below.setCell ?_ ?_ _); rotate_left; focus (first | (simp; done) | (simp; omega) | omega)) | ((with_reducible refine Below.alloc ?_ ?_ _); rotate_left; focus (first | (simp; done) | (simp; omega) | omega)) | with_reducible refine Below.trans ?_ (below_drewN' _ _ _) | with_reducible refine Below.trans ?_ (below_drew _ _))))
  clear KS1c0 KS1f0 KS1c1 KS1f1 KS1c2 KS1f2 KS1c3 KS1f3 KS1c4 KS1f4 KS1c5 KS1f5 KS1c6 KS1f6 KH1c0 KH1c1 KH1c2 KH1 KJ1 KR1 KS1 HB1
  generalize ((w1.alloc (.cells zh 25)).alloc (.cells #[.bool false, .bool false, .int .i64 2] 50)) = w2 at *
  refine (agree_no (w.heap.size + 1 + 1 + 1 + 1) c s m o k false false 2 y z _ KS2.out HA.out).mono ?_
  rintro e w3 ⟨rfl, ht⟩
  have HT := Lib.hid ht
  clear ht
  have KS3 := Lib.hid HT.out.1
  have KA3 := Lib.hid (HT.out.2.2 _ _ (by omega) KA2.out)
  have KJ3 := Lib.hid (HT.out.2.2 _ _ (by omega) KJ2.out)
  have KR3 := Lib.hid (HT.out.2.2 _ _ (by omega) KR2.out)
  have HB3 := Lib.hid (HB2.out.trans (HT.out.2.1.mono (by omega)))
  clear HT KA2 KJ2 KR2 KS2 HB2
  have KA3c0 : w3.cell? ⟨w1.heap.size, 0, none⟩ = some (.int .i64 0) := KA3.out.c 0 rfl
  have KA3f0 : w3.frozen? ⟨w1.heap.size, 0, none⟩ = false := KA3.out.f 0 (by simp)
  have KA3c1 : w3.cell? ⟨w1.heap.size, 1, none⟩ = some (.int .i64 0) := KA3.out.c 1 rfl
  have KA3f1 : w3.frozen? ⟨w1.heap.size, 1, none⟩ = false := KA3.out.f 1 (by simp)
  have KA3c2 : w3.cell? ⟨w1.heap.size, 2, none⟩ = some (.int .i64 0) := KA3.out.c 2 rfl
  have KA3f2 : w3.frozen? ⟨w1.heap.size, 2, none⟩ = false := KA3.out.f 2 (by simp)
  have KJ3c0 : w3.cell? ⟨w.heap.size + 1 + 1, 0, none⟩ = some (.int .i64 0) := KJ3.out.c 0 rfl
  have KJ3f0 : w3.frozen? ⟨w.heap.size + 1 + 1, 0, none⟩ = false := KJ3.out.f 0 (by simp)
  have KJ3c1 : w3.cell? ⟨w.heap.size + 1 + 1, 1, none⟩ = some (.int .i64 0) := KJ3.out.c 1 rfl
  have KJ3f1 : w3.frozen? ⟨w.heap.size + 1 + 1, 1, none⟩ = false := KJ3.out.f 1 (by simp)
  have KJ3c2 : w3.cell? ⟨w.heap.size + 1 + 1, 2, none⟩ = some (.int .i64 0) := KJ3.out.c 2 rfl
  have KJ3f2 : w3.frozen? ⟨w.heap.size + 1 + 1, 2, none⟩ = false := KJ3.out.f 2 (by simp)
  have KJ3c3 : w3.cell? ⟨w.heap.size + 1 + 1, 3, none⟩ = some (.int .i64 0) := KJ3.out.c 3 rfl
  have KJ3f3 : w3.frozen? ⟨w.heap.size + 1 + 1, 3, none⟩ = false := KJ3.out.f 3 (by simp)
  have KJ3c4 : w3.cell? ⟨w.heap.size + 1 + 1, 4, none⟩ = some (.int .i64 0) := KJ3.out.c 4 rfl
  have KJ3f4 : w3.frozen? ⟨w.heap.size + 1 + 1, 4, none⟩ = false := KJ3.out.f 4 (by simp)
  have KJ3c5 : w3.cell? ⟨w.heap.size + 1 + 1, 5, none⟩ = some (.bool false) := KJ3.out.c 5 rfl
  have KJ3f5 : w3.frozen? ⟨w.heap.size + 1 + 1, 5, none⟩ = false := KJ3.out.f 5 (by simp)
  have KJ3c6 : w3.cell? ⟨w.heap.size + 1 + 1, 6, none⟩ = some (.bool false) := KJ3.out.c 6 rfl
  have KJ3f6 : w3.frozen? ⟨w.heap.size + 1 + 1, 6, none⟩ = false := KJ3.out.f 6 (by simp)
  have KR3c0 : w3.cell? ⟨w.heap.size + 1 + 1 + 1, 0, none⟩ = some (.int .i64 0) := KR3.out.c 0 rfl
  have KR3f0 : w3.frozen? ⟨w.heap.size + 1 + 1 + 1, 0, none⟩ = false := KR3.out.f 0 (by simp)
  have KR3c1 : w3.cell? ⟨w.heap.size + 1 + 1 + 1, 1, none⟩ = some (.int .i64 0) := KR3.out.c 1 rfl
  have KR3f1 : w3.frozen? ⟨w.heap.size + 1 + 1 + 1, 1, none⟩ = false := KR3.out.f 1 (by simp)
  have KR3c2 : w3.cell? ⟨w.heap.size + 1 + 1 + 1, 2, none⟩ = some (.int .i64 0) := KR3.out.c 2 rfl
  have KR3f2 : w3.frozen? ⟨w.heap.size + 1 + 1 + 1, 2, none⟩ = false := KR3.out.f 2 (by simp)
  go_wp2
  exact bodyPost_ret (v := .tuple #[.agg zj, .agg zh, .int .i64 1]) (by simp [results, Try.results12, go_sem, KJ3c0, KJ3c1, KJ3c2, KJ3c3, KJ3c4, KJ3c5, KJ3c6, KR3c0, KR3c1, KR3c2]) rfl (RecvPost.mk (by repeat (first | with_reducible exact HB3.out | with_reducible exact Below.refl _ _ | ((with_reducible refine Below.setCell ?_ ?_ _); rotate_left; focus (first | (simp; done) | (simp; omega) | omega)) | ((with_reducible refine Below.alloc ?_ ?_ _); rotate_left; focus (first | (simp; done) | (simp; omega) | omega)) | with_reducible refine Below.trans ?_ (below_drewN' _ _ _) | with_reducible refine Below.trans ?_ (below_drew _ _))))
set_option maxRecDepth 100000 in
set_option maxHeartbeats 8000000 in
theorem recv_agreeBad (c s m o k : Int) (y z : Int) (w : World) (hv : vld s m o k false = true) (ha : accB y = true) (hz : (z == prf c s m y false 1) = false)  : Calls Try.prog 12 #[.agg (jc c s m o k false false), .agg (hc3 2 y z)] w (RecvPost zj zh 17 w) := by
  have HA := Lib.hid ha
  have HZ := Lib.hid hz
  clear ha hz
  have HV := Lib.hid hv
  have KH := Lib.hid ((((Cs.new (w.alloc (.cells (jc c s m o k false false) 23)) (w.heap.size + 1) (hc3 2 y z) 25 (by simp)).alloc (.cells zj 23)).alloc (.cells zh 25)).alloc (.cells (jc c s m o k false false) 48))
  have KJ := Lib.hid (((Cs.new ((w.alloc (.cells (jc c s m o k false false) 23)).alloc (.cells (hc3 2 y z) 25)) (w.heap.size + 1 + 1) zj 23 (by simp)).alloc (.cells zh 25)).alloc (.cells (jc c s m o k false false) 48))
  have KR := Lib.hid ((Cs.new (((w.alloc (.cells (jc c s m o k false false) 23)).alloc (.cells (hc3 2 y z) 25)).alloc (.cells zj 23)) (w.heap.size + 1 + 1 + 1) zh 25 (by simp)).alloc (.cells (jc c s m o k false false) 48))
  have KS := Lib.hid (Cs.new ((((w.alloc (.cells (jc c s m o k false false) 23)).alloc (.cells (hc3 2 y z) 25)).alloc (.cells zj 23)).alloc (.cells zh 25)) (w.heap.size + 1 + 1 + 1 + 1) (jc c s m o k false false) 48 (by simp))
  have HB0 := Lib.hid (show Below w.heap.size w (((((w.alloc (.cells (jc c s m o k false false) 23)).alloc (.cells (hc3 2 y z) 25)).alloc (.cells zj 23)).alloc (.cells zh 25)).alloc (.cells (jc c s m o k false false) 48)) from (by repeat (first | with_reducible exact Below.refl _ _ | with_reducible exact Below.refl _ _ | ((with_reducible refine Below.setCell ?_ ?_ _); rotate_left; focus (first | (simp; done) | (simp; omega) | omega)) | ((with_reducible refine Below.alloc ?_ ?_ _); rotate_left; focus (first | (simp; done) | (simp; omega) | omega)) | with_reducible refine Below.trans ?_ (below_drewN' _ _ _) | with_reducible refine Below.trans ?_ (below_drew _ _))))
  clear hv
  go_enter Try.func12, Try.ntmps12
  go_wp2_with fail
  refine (isValid_any (w.heap.size + 1 + 1 + 1 + 1) c s m o k false false _ KS.out).mono ?_
  rintro e w1 ⟨rfl, b1⟩
  rw [HV.out]
  have KH1 := Lib.hid (KH.out.step b1)
  have KJ1 := Lib.hid (KJ.out.step b1)
  have KR1 := Lib.hid (KR.out.step b1)
  have KS1 := Lib.hid (KS.out.step b1)
  have HB1 := Lib.hid (HB0.out.trans (b1.mono (by simp; omega)))
  clear b1 KH KJ KR KS HB0
  have lt1 : w.heap.size + 1 < w1.heap.size := KH1.out.2.2
  have lt2 : w.heap.size + 1 + 1 < w1.heap.size := KJ1.out.2.2
  have lt3 : w.heap.size + 1 + 1 + 1 < w1.heap.size := KR1.out.2.2
  have lt4 : w.heap.size + 1 + 1 + 1 + 1 < w1.heap.size := KS1.out.2.2
  have KS1c0 : w1.cell? ⟨w.heap.size + 1 + 1 + 1 + 1, 0, none⟩ = some (.int .i64 c) := KS1.out.c 0 rfl
  have KS1f0 : w1.frozen? ⟨w.heap.size + 1 + 1 + 1 + 1, 0, none⟩ = false := KS1.out.f 0 (by simp)
  have KS1c1 : w1.cell? ⟨w.heap.size + 1 + 1 + 1 + 1, 1, none⟩ = some (.int .i64 s) := KS1.out.c 1 rfl
  have KS1f1 : w1.frozen? ⟨w.heap.size + 1 + 1 + 1 + 1, 1, none⟩ = false := KS1.out.f 1 (by simp)
  have KS1c2 : w1.cell? ⟨w.heap.size + 1 + 1 + 1 + 1, 2, none⟩ = some (.int .i64 m) := KS1.out.c 2 rfl
  have KS1f2 : w1.frozen? ⟨w.heap.size + 1 + 1 + 1 + 1, 2, none⟩ = false := KS1.out.f 2 (by simp)
  have KS1c3 : w1.cell? ⟨w.heap.size + 1 + 1 + 1 + 1, 3, none⟩ = some (.int .i64 o) := KS1.out.c 3 rfl
  have KS1f3 : w1.frozen? ⟨w.heap.size + 1 + 1 + 1 + 1, 3, none⟩ = false := KS1.out.f 3 (by simp)
  have KS1c4 : w1.cell? ⟨w.heap.size + 1 + 1 + 1 + 1, 4, none⟩ = some (.int .i64 k) := KS1.out.c 4 rfl
  have KS1f4 : w1.frozen? ⟨w.heap.size + 1 + 1 + 1 + 1, 4, none⟩ = false := KS1.out.f 4 (by simp)
  have KS1c5 : w1.cell? ⟨w.heap.size + 1 + 1 + 1 + 1, 5, none⟩ = some (.bool false) := KS1.out.c 5 rfl
  have KS1f5 : w1.frozen? ⟨w.heap.size + 1 + 1 + 1 + 1, 5, none⟩ = false := KS1.out.f 5 (by simp)
  have KS1c6 : w1.cell? ⟨w.heap.size + 1 + 1 + 1 + 1, 6, none⟩ = some (.bool false) := KS1.out.c 6 rfl
  have KS1f6 : w1.frozen? ⟨w.heap.size + 1 + 1 + 1 + 1, 6, none⟩ = false := KS1.out.f 6 (by simp)
  have KH1c0 : w1.cell? ⟨w.heap.size + 1, 0, none⟩ = some (.int .i64 2) := KH1.out.c 0 rfl
  have KH1c1 : w1.cell? ⟨w.heap.size + 1, 1, none⟩ = some (.int .i64 y) := KH1.out.c 1 rfl
  have KH1c2 : w1.cell? ⟨w.heap.size + 1, 2, none⟩ = some (.int .i64 z) := KH1.out.c 2 rfl
  have lu1 : w.heap.size + 1 < w1.heap.size + 1 := by omega
  have lu4 : w.heap.size + 1 + 1 + 1 + 1 < w1.heap.size + 1 := by omega
  go_wp2_with fail
  have KA2 := Lib.hid ((Cs.new w1 w1.heap.size zh 25 rfl).alloc (.cells #[.bool false, .bool false, .int .i64 2] 50))
  have KJ2 := Lib.hid ((KJ1.out.alloc (.cells zh 25)).alloc (.cells #[.bool false, .bool false, .int .i64 2] 50))
  have KR2 := Lib.hid ((KR1.out.alloc (.cells zh 25)).alloc (.cells #[.bool false, .bool false, .int .i64 2] 50))
  have KS2 := Lib.hid ((KS1.out.alloc (.cells zh 25)).alloc (.cells #[.bool false, .bool false, .int .i64 2] 50))
  have HB2 := Lib.hid (show Below w.heap.size w ((w1.alloc (.cells zh 25)).alloc (.cells #[.bool false, .bool false, .int .i64 2] 50)) from (by repeat (first | with_reducible exact HB1.out | with_reducible exact Below.refl _ _ | ((with_reducible refine Below.setCell ?_ ?_ _); rotate_left; focus (first | (simp; done) | (simp; omega) | omega)) | ((with_reducible refine Below.alloc ?_ ?_ _); rotate_left; focus (first | (simp; done) | (simp; omega) | omega)) | with_reducible refine Below.trans ?_ (below_drewN' _ _ _) | with_reducible refine Below.trans ?_ (below_drew _ _))))
  clear KS1c0 KS1f0 KS1c1 KS1f1 KS1c2 KS1f2 KS1c3 KS1f3 KS1c4 KS1f4 KS1c5 KS1f5 KS1c6 KS1f6 KH1c0 KH1c1 KH1c2 KH1 KJ1 KR1 KS1 HB1
  generalize ((w1.alloc (.cells zh 25)).alloc (.cells #[.bool false, .bool false, .int .i64 2] 50)) = w2 at *
  refine (agree_acc (w.heap.size + 1 + 1 + 1 + 1) c s m o k false false 2 y z false _ KS2.out HA.out HZ.out).mono ?_
  rintro e w3 ⟨rfl, ht⟩
  have HT := Lib.hid ht
  clear ht
  have KS3 := Lib.hid HT.out.1
  have KA3 := Lib.hid (HT.out.2.2 _ _ (by omega) KA2.out)
  have KJ3 := Lib.hid (HT.out.2.2 _ _ (by omega) KJ2.out)
  have KR3 := Lib.hid (HT.out.2.2 _ _ (by omega) KR2.out)
  have HB3 := Lib.hid (HB2.out.trans (HT.out.2.1.mono (by omega)))
  clear HT KA2 KJ2 KR2 KS2 HB2
  have KA3c0 : w3.cell? ⟨w1.heap.size, 0, none⟩ = some (.int .i64 0) := KA3.out.c 0 rfl
  have KA3f0 : w3.frozen? ⟨w1.heap.size, 0, none⟩ = false := KA3.out.f 0 (by simp)
  have KA3c1 : w3.cell? ⟨w1.heap.size, 1, none⟩ = some (.int .i64 0) := KA3.out.c 1 rfl
  have KA3f1 : w3.frozen? ⟨w1.heap.size, 1, none⟩ = false := KA3.out.f 1 (by simp)
  have KA3c2 : w3.cell? ⟨w1.heap.size, 2, none⟩ = some (.int .i64 0) := KA3.out.c 2 rfl
  have KA3f2 : w3.frozen? ⟨w1.heap.size, 2, none⟩ = false := KA3.out.f 2 (by simp)
  have KJ3c0 : w3.cell? ⟨w.heap.size + 1 + 1, 0, none⟩ = some (.int .i64 0) := KJ3.out.c 0 rfl
  have KJ3f0 : w3.frozen? ⟨w.heap.size + 1 + 1, 0, none⟩ = false := KJ3.out.f 0 (by simp)
  have KJ3c1 : w3.cell? ⟨w.heap.size + 1 + 1, 1, none⟩ = some (.int .i64 0) := KJ3.out.c 1 rfl
  have KJ3f1 : w3.frozen? ⟨w.heap.size + 1 + 1, 1, none⟩ = false := KJ3.out.f 1 (by simp)
  have KJ3c2 : w3.cell? ⟨w.heap.size + 1 + 1, 2, none⟩ = some (.int .i64 0) := KJ3.out.c 2 rfl
  have KJ3f2 : w3.frozen? ⟨w.heap.size + 1 + 1, 2, none⟩ = false := KJ3.out.f 2 (by simp)
  have KJ3c3 : w3.cell? ⟨w.heap.size + 1 + 1, 3, none⟩ = some (.int .i64 0) := KJ3.out.c 3 rfl
  have KJ3f3 : w3.frozen? ⟨w.heap.size + 1 + 1, 3, none⟩ = false := KJ3.out.f 3 (by simp)
  have KJ3c4 : w3.cell? ⟨w.heap.size + 1 + 1, 4, none⟩ = some (.int .i64 0) := KJ3.out.c 4 rfl
  have KJ3f4 : w3.frozen? ⟨w.heap.size + 1 + 1, 4, none⟩ = false := KJ3.out.f 4 (by simp)
  have KJ3c5 : w3.cell? ⟨w.heap.size + 1 + 1, 5, none⟩ = some (.bool false) := KJ3.out.c 5 rfl
  have KJ3f5 : w3.frozen? ⟨w.heap.size + 1 + 1, 5, none⟩ = false := KJ3.out.f 5 (by simp)
  have KJ3c6 : w3.cell? ⟨w.heap.size + 1 + 1, 6, none⟩ = some (.bool false) := KJ3.out.c 6 rfl
  have KJ3f6 : w3.frozen? ⟨w.heap.size + 1 + 1, 6, none⟩ = false := KJ3.out.f 6 (by simp)
  have KR3c0 : w3.cell? ⟨w.heap.size + 1 + 1 + 1, 0, none⟩ = some (.int .i64 0) := KR3.out.c 0 rfl
  have KR3f0 : w3.frozen? ⟨w.heap.size + 1 + 1 + 1, 0, none⟩ = false := KR3.out.f 0 (by simp)
  have KR3c1 : w3.cell? ⟨w.heap.size + 1 + 1 + 1, 1, none⟩ = some (.int .i64 0) := KR3.out.c 1 rfl
  have KR3f1 : w3.frozen? ⟨w.heap.size + 1 + 1 + 1, 1, none⟩ = false := KR3.out.f 1 (by simp)
  have KR3c2 : w3.cell? ⟨w.heap.size + 1 + 1 + 1, 2, none⟩ = some (.int .i64 0) := KR3.out.c 2 rfl
  have KR3f2 : w3.frozen? ⟨w.heap.size + 1 + 1 + 1, 2, none⟩ = false := KR3.out.f 2 (by simp)
  go_wp2
  exact bodyPost_ret (v := .tuple #[.agg zj, .agg zh, .int .i64 17]) (by simp [results, Try.results12, go_sem, KJ3c0, KJ3c1, KJ3c2, KJ3c3, KJ3c4, KJ3c5, KJ3c6, KR3c0, KR3c1, KR3c2]) rfl (RecvPost.mk (by repeat (first | with_reducible exact HB3.out | with_reducible exact Below.refl _ _ | ((with_reducible refine Below.setCell ?_ ?_ _); rotate_left; focus (first | (simp; done) | (simp; omega) | omega)) | ((with_reducible refine Below.alloc ?_ ?_ _); rotate_left; focus (first | (simp; done) | (simp; omega) | omega)) | with_reducible refine Below.trans ?_ (below_drewN' _ _ _) | with_reducible refine Below.trans ?_ (below_drew _ _))))
set_option maxRecDepth 100000 in
set_option maxHeartbeats 8000000 in
theorem recv_agree (c s m o k : Int) (y z : Int) (w : World) (hv : vld s m o k false = true) (ha : accB y = true) (hz : (z == prf c s m y false 1) = true)  : Calls Try.prog 12 #[.agg (jc c s m o k false false), .agg (hc3 2 y z)] w (RecvPost (jc c s m y (pw y s) false true) (hc3 3 0 (prf c s m y false 2)) 0 w) := by
  have HA := Lib.hid ha
  have HZ := Lib.hid hz
  clear ha hz
  have HV := Lib.hid hv
  have KH := Lib.hid ((((Cs.new (w.alloc (.cells (jc c s m o k false false) 23)) (w.heap.size + 1) (hc3 2 y z) 25 (by simp)).alloc (.cells zj 23)).alloc (.cells zh 25)).alloc (.cells (jc c s m o k false false) 48))
  have KJ := Lib.hid (((Cs.new ((w.alloc (.cells (jc c s m o k false false) 23)).alloc (.cells (hc3 2 y z) 25)) (w.heap.size + 1 + 1) zj 23 (by simp)).alloc (.cells zh 25)).alloc (.cells (jc c s m o k false false) 48))
  have KR := Lib.hid ((Cs.new (((w.alloc (.cells (jc c s m o k false false) 23)).alloc (.cells (hc3 2 y z) 25)).alloc (.cells zj 23)) (w.heap.size + 1 + 1 + 1) zh 25 (by simp)).alloc (.cells (jc c s m o k false false) 48))
  have KS := Lib.hid (Cs.new ((((w.alloc (.cells (jc c s m o k false false) 23)).alloc (.cells (hc3 2 y z) 25)).alloc (.cells zj 23)).alloc (.cells zh 25)) (w.heap.size + 1 + 1 + 1 + 1) (jc c s m o k false false) 48 (by simp))
  have HB0 := Lib.hid (show Below w.heap.size w (((((w.alloc (.cells (jc c s m o k false false) 23)).alloc (.cells (hc3 2 y z) 25)).alloc (.cells zj 23)).alloc (.cells zh 25)).alloc (.cells (jc c s m o k false false) 48)) from (by repeat (first | with_reducible exact Below.refl _ _ | with_reducible exact Below.refl _ _ | ((with_reducible refine Below.setCell ?_ ?_ _); rotate_left; focus (first | (simp; done) | (simp; omega) | omega)) | ((with_reducible refine Below.alloc ?_ ?_ _); rotate_left; focus (first | (simp; done) | (simp; omega) | omega)) | with_reducible refine Below.trans ?_ (below_drewN' _ _ _) | with_reducible refine Below.trans ?_ (below_drew _ _))))
  clear hv
  go_enter Try.func12, Try.ntmps12
  go_wp2_with fail
  refine (isValid_any (w.heap.size + 1 + 1 + 1 + 1) c s m o k false false _ KS.out).mono ?_
  rintro e w1 ⟨rfl, b1⟩
  rw [HV.out]
  have KH1 := Lib.hid (KH.out.step b1)
  have KJ1 := Lib.hid (KJ.out.step b1)
  have KR1 := Lib.hid (KR.out.step b1)
  have KS1 := Lib.hid (KS.out.step b1)
  have HB1 := Lib.hid (HB0.out.trans (b1.mono (by simp; omega)))
  clear b1 KH KJ KR KS HB0
  have lt1 : w.heap.size + 1 < w1.heap.size := KH1.out.2.2
  have lt2 : w.heap.size + 1 + 1 < w1.heap.size := KJ1.out.2.2
  have lt3 : w.heap.size + 1 + 1 + 1 < w1.heap.size := KR1.out.2.2
  have lt4 : w.heap.size + 1 + 1 + 1 + 1 < w1.heap.size := KS1.out.2.2
  have KS1c0 : w1.cell? ⟨w.heap.size + 1 + 1 + 1 + 1, 0, none⟩ = some (.int .i64 c) := KS1.out.c 0 rfl
  have KS1f0 : w1.frozen? ⟨w.heap.size + 1 + 1 + 1 + 1, 0, none⟩ = false := KS1.out.f 0 (by simp)
  have KS1c1 : w1.cell? ⟨w.heap.size + 1 + 1 + 1 + 1, 1, none⟩ = some (.int .i64 s) := KS1.out.c 1 rfl
  have KS1f1 : w1.frozen? ⟨w.heap.size + 1 + 1 + 1 + 1, 1, none⟩ = false := KS1.out.f 1 (by simp)
  have KS1c2 : w1.cell? ⟨w.heap.size + 1 + 1 + 1 + 1, 2, none⟩ = some (.int .i64 m) := KS1.out.c 2 rfl
  have KS1f2 : w1.frozen? ⟨w.heap.size + 1 + 1 + 1 + 1, 2, none⟩ = false := KS1.out.f 2 (by simp)
  have KS1c3 : w1.cell? ⟨w.heap.size + 1 + 1 + 1 + 1, 3, none⟩ = some (.int .i64 o) := KS1.out.c 3 rfl
  have KS1f3 : w1.frozen? ⟨w.heap.size + 1 + 1 + 1 + 1, 3, none⟩ = false := KS1.out.f 3 (by simp)
  have KS1c4 : w1.cell? ⟨w.heap.size + 1 + 1 + 1 + 1, 4, none⟩ = some (.int .i64 k) := KS1.out.c 4 rfl
  have KS1f4 : w1.frozen? ⟨w.heap.size + 1 + 1 + 1 + 1, 4, none⟩ = false := KS1.out.f 4 (by simp)
  have KS1c5 : w1.cell? ⟨w.heap.size + 1 + 1 + 1 + 1, 5, none⟩ = some (.bool false) := KS1.out.c 5 rfl
  have KS1f5 : w1.frozen? ⟨w.heap.size + 1 + 1 + 1 + 1, 5, none⟩ = false := KS1.out.f 5 (by simp)
  have KS1c6 : w1.cell? ⟨w.heap.size + 1 + 1 + 1 + 1, 6, none⟩ = some (.bool false) := KS1.out.c 6 rfl
  have KS1f6 : w1.frozen? ⟨w.heap.size + 1 + 1 + 1 + 1, 6, none⟩ = false := KS1.out.f 6 (by simp)
  have KH1c0 : w1.cell? ⟨w.heap.size + 1, 0, none⟩ = some (.int .i64 2) := KH1.out.c 0 rfl
  have KH1c1 : w1.cell? ⟨w.heap.size + 1, 1, none⟩ = some (.int .i64 y) := KH1.out.c 1 rfl
  have KH1c2 : w1.cell? ⟨w.heap.size + 1, 2, none⟩ = some (.int .i64 z) := KH1.out.c 2 rfl
  have lu1 : w.heap.size + 1 < w1.heap.size + 1 := by omega
  have lu4 : w.heap.size + 1 + 1 + 1 + 1 < w1.heap.size + 1 := by omega
  go_wp2_with fail
  have KA2 := Lib.hid ((Cs.new w1 w1.heap.size zh 25 rfl).alloc (.cells #[.bool false, .bool false, .int .i64 2] 50))
  have KJ2 := Lib.hid ((KJ1.out.alloc (.cells zh 25)).alloc (.cells #[.bool false, .bool false, .int .i64 2] 50))
  have KR2 := Lib.hid ((KR1.out.alloc (.cells zh 25)).alloc (.cells #[.bool false, .bool false, .int .i64 2] 50))
  have KS2 := Lib.hid ((KS1.out.alloc (.cells zh 25)).alloc (.cells #[.bool false, .bool false, .int .i64 2] 50))
  have HB2 := Lib.hid (show Below w.heap.size w ((w1.alloc (.cells zh 25)).alloc (.cells #[.bool false, .bool false, .int .i64 2] 50)) from (by repeat (first | with_reducible exact HB1.out | with_reducible exact Below.refl _ _ | ((with_reducible refine Below.setCell ?_ ?_ _); rotate_left; focus (first | (simp; done) | (simp; omega) | omega)) | ((with_reducible refine Below.alloc ?_ ?_ _); rotate_left; focus (first | (simp; done) | (simp; omega) | omega)) | with_reducible refine Below.trans ?_ (below_drewN' _ _ _) | with_reducible refine Below.trans ?_ (below_drew _ _))))
  clear KS1c0 KS1f0 KS1c1 KS1f1 KS1c2 KS1f2 KS1c3 KS1f3 KS1c4 KS1f4 KS1c5 KS1f5 KS1c6 KS1f6 KH1c0 KH1c1 KH1c2 KH1 KJ1 KR1 KS1 HB1
  generalize ((w1.alloc (.cells zh 25)).alloc (.cells #[.bool false, .bool false, .int .i64 2] 50)) = w2 at *
  refine (agree_acc (w.heap.size + 1 + 1 + 1 + 1) c s m o k false false 2 y z true _ KS2.out HA.out HZ.out).mono ?_
  rintro e w3 ⟨rfl, ht⟩
  have HT := Lib.hid ht
  clear ht
  have KS3 := Lib.hid HT.out.1
  have KA3 := Lib.hid (HT.out.2.2 _ _ (by omega) KA2.out)
  have KJ3 := Lib.hid (HT.out.2.2 _ _ (by omega) KJ2.out)
  have KR3 := Lib.hid (HT.out.2.2 _ _ (by omega) KR2.out)
  have HB3 := Lib.hid (HB2.out.trans (HT.out.2.1.mono (by omega)))
  clear HT KA2 KJ2 KR2 KS2 HB2
  have KA3c0 : w3.cell? ⟨w1.heap.size, 0, none⟩ = some (.int .i64 0) := KA3.out.c 0 rfl
  have KA3f0 : w3.frozen? ⟨w1.heap.size, 0, none⟩ = false := KA3.out.f 0 (by simp)
  have KA3c1 : w3.cell? ⟨w1.heap.size, 1, none⟩ = some (.int .i64 0) := KA3.out.c 1 rfl
  have KA3f1 : w3.frozen? ⟨w1.heap.size, 1, none⟩ = false := KA3.out.f 1 (by simp)
  have KA3c2 : w3.cell? ⟨w1.heap.size, 2, none⟩ = some (.int .i64 0) := KA3.out.c 2 rfl
  have KA3f2 : w3.frozen? ⟨w1.heap.size, 2, none⟩ = false := KA3.out.f 2 (by simp)
  go_wp2_with fail
  have KA4 := Lib.hid ((((KA3.out).set 0 (by simp) (.int .i64 3) (vs' := #[.int .i64 3, .int .i64 0, .int .i64 0]) rfl).set 1 (by simp) (.int .i64 0) (vs' := #[.int .i64 3, .int .i64 0, .int .i64 0]) rfl).set 2 (by simp) (.int .i64 (prf c s m y false 2)) (vs' := #[.int .i64 3, .int .i64 0, .int .i64 (prf c s m y false 2)]) rfl)
  have KS4 := Lib.hid ((((KS3.out).other (b := w1.heap.size) (by omega) 0 (.int .i64 3)).other (b := w1.heap.size) (by omega) 1 (.int .i64 0)).other (b := w1.heap.size) (by omega) 2 (.int .i64 (prf c s m y false 2)))
  have KJ4 := Lib.hid ((((KJ3.out).other (b := w1.heap.size) (by omega) 0 (.int .i64 3)).other (b := w1.heap.size) (by omega) 1 (.int .i64 0)).other (b := w1.heap.size) (by omega) 2 (.int .i64 (prf c s m y false 2)))
  have KR4 := Lib.hid ((((KR3.out).other (b := w1.heap.size) (by omega) 0 (.int .i64 3)).other (b := w1.heap.size) (by omega) 1 (.int .i64 0)).other (b := w1.heap.size) (by omega) 2 (.int .i64 (prf c s m y false 2)))
  have HB4 := Lib.hid (show Below w.heap.size w (((w3.setCell ⟨w1.heap.size, 0, none⟩ (.int .i64 3)).setCell ⟨w1.heap.size, 1, none⟩ (.int .i64 0)).setCell ⟨w1.heap.size, 2, none⟩ (.int .i64 (prf c s m y false 2))) from (by repeat (first | with_reducible exact HB3.out | with_reducible exact Below.refl _ _ | ((with_reducible refine Below.setCell ?_ ?_ _); rotate_left; focus (first | (simp; done) | (simp; omega) | omega)) | ((with_reducible refine Below.alloc ?_ ?_ _); rotate_left; focus (first | (simp; done) | (simp; omega) | omega)) | with_reducible refine Below.trans ?_ (below_drewN' _ _ _) | with_reducible refine Below.trans ?_ (below_drew _ _))))
  clear KA3c0 KA3f0 KA3c1 KA3f1 KA3c2 KA3f2 KA3 KS3 KJ3 KR3 HB3
  generalize (((w3.setCell ⟨w1.heap.size, 0, none⟩ (.int .i64 3)).setCell ⟨w1.heap.size, 1, none⟩ (.int .i64 0)).setCell ⟨w1.heap.size, 2, none⟩ (.int .i64 (prf c s m y false 2))) = w4 at *
  have KS4c0 : w4.cell? ⟨w.heap.size + 1 + 1 + 1 + 1, 0, none⟩ = some (.int .i64 c) := KS4.out.c 0 rfl
  have KS4c1 : w4.cell? ⟨w.heap.size + 1 + 1 + 1 + 1, 1, none⟩ = some (.int .i64 s) := KS4.out.c 1 rfl
  have KS4c2 : w4.cell? ⟨w.heap.size + 1 + 1 + 1 + 1, 2, none⟩ = some (.int .i64 m) := KS4.out.c 2 rfl
  have KS4c3 : w4.cell? ⟨w.heap.size + 1 + 1 + 1 + 1, 3, none⟩ = some (.int .i64 y) := KS4.out.c 3 rfl
  have KS4c4 : w4.cell? ⟨w.heap.size + 1 + 1 + 1 + 1, 4, none⟩ = some (.int .i64 (pw y s)) := KS4.out.c 4 rfl
  have KS4c5 : w4.cell? ⟨w.heap.size + 1 + 1 + 1 + 1, 5, none⟩ = some (.bool false) := KS4.out.c 5 rfl
  have KS4c6 : w4.cell? ⟨w.heap.size + 1 + 1 + 1 + 1, 6, none⟩ = some (.bool true) := KS4.out.c 6 rfl
  have KA4c0 : w4.cell? ⟨w1.heap.size, 0, none⟩ = some (.int .i64 3) := KA4.out.c 0 rfl
  have KA4c1 : w4.cell? ⟨w1.heap.size, 1, none⟩ = some (.int .i64 0) := KA4.out.c 1 rfl
  have KA4c2 : w4.cell? ⟨w1.heap.size, 2, none⟩ = some (.int .i64 (prf c s m y false 2)) := KA4.out.c 2 rfl
  have KJ4c0 : w4.cell? ⟨w.heap.size + 1 + 1, 0, none⟩ = some (.int .i64 0) := KJ4.out.c 0 rfl
  have KJ4f0 : w4.frozen? ⟨w.heap.size + 1 + 1, 0, none⟩ = false := KJ4.out.f 0 (by simp)
  have KJ4c1 : w4.cell? ⟨w.heap.size + 1 + 1, 1, none⟩ = some (.int .i64 0) := KJ4.out.c 1 rfl
  have KJ4f1 : w4.frozen? ⟨w.heap.size + 1 + 1, 1, none⟩ = false := KJ4.out.f 1 (by simp)
  have KJ4c2 : w4.cell? ⟨w.heap.size + 1 + 1, 2, none⟩ = some (.int .i64 0) := KJ4.out.c 2 rfl
  have KJ4f2 : w4.frozen? ⟨w.heap.size + 1 + 1, 2, none⟩ = false := KJ4.out.f 2 (by simp)
  have KJ4c3 : w4.cell? ⟨w.heap.size + 1 + 1, 3, none⟩ = some (.int .i64 0) := KJ4.out.c 3 rfl
  have KJ4f3 : w4.frozen? ⟨w.heap.size + 1 + 1, 3, none⟩ = false := KJ4.out.f 3 (by simp)
  have KJ4c4 : w4.cell? ⟨w.heap.size + 1 + 1, 4, none⟩ = some (.int .i64 0) := KJ4.out.c 4 rfl
  have KJ4f4 : w4.frozen? ⟨w.heap.size + 1 + 1, 4, none⟩ = false := KJ4.out.f 4 (by simp)
  have KJ4c5 : w4.cell? ⟨w.heap.size + 1 + 1, 5, none⟩ = some (.bool false) := KJ4.out.c 5 rfl
  have KJ4f5 : w4.frozen? ⟨w.heap.size + 1 + 1, 5, none⟩ = false := KJ4.out.f 5 (by simp)
  have KJ4c6 : w4.cell? ⟨w.heap.size + 1 + 1, 6, none⟩ = some (.bool false) := KJ4.out.c 6 rfl
  have KJ4f6 : w4.frozen? ⟨w.heap.size + 1 + 1, 6, none⟩ = false := KJ4.out.f 6 (by simp)
  have KR4c0 : w4.cell? ⟨w.heap.size + 1 + 1 + 1, 0, none⟩ = some (.int .i64 0) := KR4.out.c 0 rfl
  have KR4f0 : w4.frozen? ⟨w.heap.size + 1 + 1 + 1, 0, none⟩ = false := KR4.out.f 0 (by simp)
  have KR4c1 : w4.cell? ⟨w.heap.size + 1 + 1 + 1, 1, none⟩ = some (.int .i64 0) := KR4.out.c 1 rfl
  have KR4f1 : w4.frozen? ⟨w.heap.size + 1 + 1 + 1, 1, none⟩ = false := KR4.out.f 1 (by simp)
  have KR4c2 : w4.cell? ⟨w.heap.size + 1 + 1 + 1, 2, none⟩ = some (.int .i64 0) := KR4.out.c 2 rfl
  have KR4f2 : w4.frozen? ⟨w.heap.size + 1 + 1 + 1, 2, none⟩ = false := KR4.out.f 2 (by simp)
  go_region
  all_goals go_wp2
  all_goals exact bodyPost_ret (v := .tuple #[.agg (jc c s m y (pw y s) false true), .agg (hc3 3 0 (prf c s m y false 2)), .int .i64 0]) (by simp [results, Try.results12, go_sem, KJ4c0, KJ4c1, KJ4c2, KJ4c3, KJ4c4, KJ4c5, KJ4c6, KR4c0, KR4c1, KR4c2]) rfl (RecvPost.mk (by repeat (first | with_reducible exact HB4.out | with_reducible exact Below.refl _ _ | ((with_reducible refine Below.setCell ?_ ?_ _); rotate_left; focus (first | (simp; done) | (simp; omega) | omega)) | ((with_reducible refine Below.alloc ?_ ?_ _); rotate_left; focus (first | (simp; done) | (simp; omega) | omega)) | with_reducible refine Below.trans ?_ (below_drewN' _ _ _) | with_reducible refine Below.trans ?_ (below_drew _ _))))
set_option maxRecDepth 100000 in
set_option maxHeartbeats 8000000 in
theorem recv_finBad (c s m o k : Int) (y z : Int) (w : World) (hv : vld s m o k false = true) (ho : (o != 0) = true) (hz : (z == prf c s m o true 2) = false)  : Calls Try.prog 12 #[.agg (jc c s m o k true false), .agg (hc3 3 y z)] w (RecvPost zj zh 17 w) := by
  have HZ := Lib.hid hz
  clear hz
  have HV := Lib.hid hv
  have KH := Lib.hid ((((Cs.new (w.alloc (.cells (jc c s m o k true false) 23)) (w.heap.size + 1) (hc3 3 y z) 25 (by simp)).alloc (.cells zj 23)).alloc (.cells zh 25)).alloc (.cells (jc c s m o k true false) 48))
  have KJ := Lib.hid (((Cs.new ((w.alloc (.cells (jc c s m o k true false) 23)).alloc (.cells (hc3 3 y z) 25)) (w.heap.size + 1 + 1) zj 23 (by simp)).alloc (.cells zh 25)).alloc (.cells (jc c s m o k true false) 48))
  have KR := Lib.hid ((Cs.new (((w.alloc (.cells (jc c s m o k true false) 23)).alloc (.cells (hc3 3 y z) 25)).alloc (.cells zj 23)) (w.heap.size + 1 + 1 + 1) zh 25 (by simp)).alloc (.cells (jc c s m o k true false) 48))
  have KS := Lib.hid (Cs.new ((((w.alloc (.cells (jc c s m o k true false) 23)).alloc (.cells (hc3 3 y z) 25)).alloc (.cells zj 23)).alloc (.cells zh 25)) (w.heap.size + 1 + 1 + 1 + 1) (jc c s m o k true false) 48 (by simp))
  have HB0 := Lib.hid (show Below w.heap.size w (((((w.alloc (.cells (jc c s m o k true false) 23)).alloc (.cells (hc3 3 y z) 25)).alloc (.cells zj 23)).alloc (.cells zh 25)).alloc (.cells (jc c s m o k true false) 48)) from (by repeat (first | with_reducible exact Below.refl _ _ | with_reducible exact Below.refl _ _ | ((with_reducible refine Below.setCell ?_ ?_ _); rotate_left; focus (first | (simp; done) | (simp; omega) | omega)) | ((with_reducible refine Below.alloc ?_ ?_ _); rotate_left; focus (first | (simp; done) | (simp; omega) | omega)) | with_reducible refine Below.trans ?_ (below_drewN' _ _ _) | with_reducible refine Below.trans ?_ (below_drew _ _))))
  clear hv
  go_enter Try.func12, Try.ntmps12
  go_wp2_with fail
  refine (isValid_any (w.heap.size + 1 + 1 + 1 + 1) c s m o k true false _ KS.out).mono ?_
  rintro e w1 ⟨rfl, b1⟩
  rw [HV.out]
  have KH1 := Lib.hid (KH.out.step b1)
  have KJ1 := Lib.hid (KJ.out.step b1)
  have KR1 := Lib.hid (KR.out.step b1)
  have KS1 := Lib.hid (KS.out.step b1)
  have HB1 := Lib.hid (HB0.out.trans (b1.mono (by simp; omega)))
  clear b1 KH KJ KR KS HB0
  have lt1 : w.heap.size + 1 < w1.heap.size := KH1.out.2.2
  have lt2 : w.heap.size + 1 + 1 < w1.heap.size := KJ1.out.2.2
  have lt3 : w.heap.size + 1 + 1 + 1 < w1.heap.size := KR1.out.2.2
  have lt4 : w.heap.size + 1 + 1 + 1 + 1 < w1.heap.size := KS1.out.2.2
  have KS1c0 : w1.cell? ⟨w.heap.size + 1 + 1 + 1 + 1, 0, none⟩ = some (.int .i64 c) := KS1.out.c 0 rfl
  have KS1f0 : w1.frozen? ⟨w.heap.size + 1 + 1 + 1 + 1, 0, none⟩ = false := KS1.out.f 0 (by simp)
  have KS1c1 : w1.cell? ⟨w.heap.size + 1 + 1 + 1 + 1, 1, none⟩ = some (.int .i64 s) := KS1.out.c 1 rfl
  have KS1f1 : w1.frozen? ⟨w.heap.size + 1 + 1 + 1 + 1, 1, none⟩ = false := KS1.out.f 1 (by simp)
  have KS1c2 : w1.cell? ⟨w.heap.size + 1 + 1 + 1 + 1, 2, none⟩ = some (.int .i64 m) := KS1.out.c 2 rfl
  have KS1f2 : w1.frozen? ⟨w.heap.size + 1 + 1 + 1 + 1, 2, none⟩ = false := KS1.out.f 2 (by simp)
  have KS1c3 : w1.cell? ⟨w.heap.size + 1 + 1 + 1 + 1, 3, none⟩ = some (.int .i64 o) := KS1.out.c 3 rfl
  have KS1f3 : w1.frozen? ⟨w.heap.size + 1 + 1 + 1 + 1, 3, none⟩ = false := KS1.out.f 3 (by simp)
  have KS1c4 : w1.cell? ⟨w.heap.size + 1 + 1 + 1 + 1, 4, none⟩ = some (.int .i64 k) := KS1.out.c 4 rfl
  have KS1f4 : w1.frozen? ⟨w.heap.size + 1 + 1 + 1 + 1, 4, none⟩ = false := KS1.out.f 4 (by simp)
  have KS1c5 : w1.cell? ⟨w.heap.size + 1 + 1 + 1 + 1, 5, none⟩ = some (.bool true) := KS1.out.c 5 rfl
  have KS1f5 : w1.frozen? ⟨w.heap.size + 1 + 1 + 1 + 1, 5, none⟩ = false := KS1.out.f 5 (by simp)
  have KS1c6 : w1.cell? ⟨w.heap.size + 1 + 1 + 1 + 1, 6, none⟩ = some (.bool false) := KS1.out.c 6 rfl
  have KS1f6 : w1.frozen? ⟨w.heap.size + 1 + 1 + 1 + 1, 6, none⟩ = false := KS1.out.f 6 (by simp)
  have KH1c0 : w1.cell? ⟨w.heap.size + 1, 0, none⟩ = some (.int .i64 3) := KH1.out.c 0 rfl
  have KH1c1 : w1.cell? ⟨w.heap.size + 1, 1, none⟩ = some (.int .i64 y) := KH1.out.c 1 rfl
  have KH1c2 : w1.cell? ⟨w.heap.size + 1, 2, none⟩ = some (.int .i64 z) := KH1.out.c 2 rfl
  have lu1 : w.heap.size + 1 < w1.heap.size + 1 := by omega
  have lu4 : w.heap.size + 1 + 1 + 1 + 1 < w1.heap.size + 1 := by omega
  go_wp2_with fail
  have KA2 := Lib.hid ((Cs.new w1 w1.heap.size zh 25 rfl).alloc (.cells #[.bool true, .bool false, .int .i64 3] 50))
  have KJ2 := Lib.hid ((KJ1.out.alloc (.cells zh 25)).alloc (.cells #[.bool true, .bool false, .int .i64 3] 50))
  have KR2 := Lib.hid ((KR1.out.alloc (.cells zh 25)).alloc (.cells #[.bool true, .bool false, .int .i64 3] 50))
  have KS2 := Lib.hid ((KS1.out.alloc (.cells zh 25)).alloc (.cells #[.bool true, .bool false, .int .i64 3] 50))
  have HB2 := Lib.hid (show Below w.heap.size w ((w1.alloc (.cells zh 25)).alloc (.cells #[.bool true, .bool false, .int .i64 3] 50)) from (by repeat (first | with_reducible exact HB1.out | with_reducible exact Below.refl _ _ | ((with_reducible refine Below.setCell ?_ ?_ _); rotate_left; focus (first | (simp; done) | (simp; omega) | omega)) | ((with_reducible refine Below.alloc ?_ ?_ _); rotate_left; focus (first | (simp; done) | (simp; omega) | omega)) | with_reducible refine Below.trans ?_ (below_drewN' _ _ _) | with_reducible refine Below.trans ?_ (below_drew _ _))))
  clear KS1c0 KS1f0 KS1c1 KS1f1 KS1c2 KS1f2 KS1c3 KS1f3 KS1c4 KS1f4 KS1c5 KS1f5 KS1c6 KS1f6 KH1c0 KH1c1 KH1c2 KH1 KJ1 KR1 KS1 HB1
  generalize ((w1.alloc (.cells zh 25)).alloc (.cells #[.bool true, .bool false, .int .i64 3] 50)) = w2 at *
  refine (finish_any (w.heap.size + 1 + 1 + 1 + 1) c s m o k true false 3 y z false _ KS2.out HZ.out).mono ?_
  rintro e w3 ⟨rfl, ht⟩
  have HT := Lib.hid ht
  clear ht
  have KS3 := Lib.hid HT.out.1
  have KA3 := Lib.hid (HT.out.2.2 _ _ (by omega) KA2.out)
  have KJ3 := Lib.hid (HT.out.2.2 _ _ (by omega) KJ2.out)
  have KR3 := Lib.hid (HT.out.2.2 _ _ (by omega) KR2.out)
  have HB3 := Lib.hid (HB2.out.trans (HT.out.2.1.mono (by omega)))
  clear HT KA2 KJ2 KR2 KS2 HB2
  have KA3c0 : w3.cell? ⟨w1.heap.size, 0, none⟩ = some (.int .i64 0) := KA3.out.c 0 rfl
  have KA3f0 : w3.frozen? ⟨w1.heap.size, 0, none⟩ = false := KA3.out.f 0 (by simp)
  have KA3c1 : w3.cell? ⟨w1.heap.size, 1, none⟩ = some (.int .i64 0) := KA3.out.c 1 rfl
  have KA3f1 : w3.frozen? ⟨w1.heap.size, 1, none⟩ = false := KA3.out.f 1 (by simp)
  have KA3c2 : w3.cell? ⟨w1.heap.size, 2, none⟩ = some (.int .i64 0) := KA3.out.c 2 rfl
  have KA3f2 : w3.frozen? ⟨w1.heap.size, 2, none⟩ = false := KA3.out.f 2 (by simp)
  have KJ3c0 : w3.cell? ⟨w.heap.size + 1 + 1, 0, none⟩ = some (.int .i64 0) := KJ3.out.c 0 rfl
  have KJ3f0 : w3.frozen? ⟨w.heap.size + 1 + 1, 0, none⟩ = false := KJ3.out.f 0 (by simp)
  have KJ3c1 : w3.cell? ⟨w.heap.size + 1 + 1, 1, none⟩ = some (.int .i64 0) := KJ3.out.c 1 rfl
  have KJ3f1 : w3.frozen? ⟨w.heap.size + 1 + 1, 1, none⟩ = false := KJ3.out.f 1 (by simp)
  have KJ3c2 : w3.cell? ⟨w.heap.size + 1 + 1, 2, none⟩ = some (.int .i64 0) := KJ3.out.c 2 rfl
  have KJ3f2 : w3.frozen? ⟨w.heap.size + 1 + 1, 2, none⟩ = false := KJ3.out.f 2 (by simp)
  have KJ3c3 : w3.cell? ⟨w.heap.size + 1 + 1, 3, none⟩ = some (.int .i64 0) := KJ3.out.c 3 rfl
  have KJ3f3 : w3.frozen? ⟨w.heap.size + 1 + 1, 3, none⟩ = false := KJ3.out.f 3 (by simp)
  have KJ3c4 : w3.cell? ⟨w.heap.size + 1 + 1, 4, none⟩ = some (.int .i64 0) := KJ3.out.c 4 rfl
  have KJ3f4 : w3.frozen? ⟨w.heap.size + 1 + 1, 4, none⟩ = false := KJ3.out.f 4 (by simp)
  have KJ3c5 : w3.cell? ⟨w.heap.size + 1 + 1, 5, none⟩ = some (.bool false) := KJ3.out.c 5 rfl
  have KJ3f5 : w3.frozen? ⟨w.heap.size + 1 + 1, 5, none⟩ = false := KJ3.out.f 5 (by simp)
  have KJ3c6 : w3.cell? ⟨w.heap.size + 1 + 1, 6, none⟩ = some (.bool false) := KJ3.out.c 6 rfl
  have KJ3f6 : w3.frozen? ⟨w.heap.size + 1 + 1, 6, none⟩ = false := KJ3.out.f 6 (by simp)
  have KR3c0 : w3.cell? ⟨w.heap.size + 1 + 1 + 1, 0, none⟩ = some (.int .i64 0) := KR3.out.c 0 rfl
  have KR3f0 : w3.frozen? ⟨w.heap.size + 1 + 1 + 1, 0, none⟩ = false := KR3.out.f 0 (by simp)
  have KR3c1 : w3.cell? ⟨w.heap.size + 1 + 1 + 1, 1, none⟩ = some (.int .i64 0) := KR3.out.c 1 rfl
  have KR3f1 : w3.frozen? ⟨w.heap.size + 1 + 1 + 1, 1, none⟩ = false := KR3.out.f 1 (by simp)
  have KR3c2 : w3.cell? ⟨w.heap.size + 1 + 1 + 1, 2, none⟩ = some (.int .i64 0) := KR3.out.c 2 rfl
  have KR3f2 : w3.frozen? ⟨w.heap.size + 1 + 1 + 1, 2, none⟩ = false := KR3.out.f 2 (by simp)
  go_wp2
  exact bodyPost_ret (v := .tuple #[.agg zj, .agg zh, .int .i64 17]) (by simp [results, Try.results12, go_sem, KJ3c0, KJ3c1, KJ3c2, KJ3c3, KJ3c4, KJ3c5, KJ3c6, KR3c0, KR3c1, KR3c2]) rfl (RecvPost.mk (by repeat (first | with_reducible exact HB3.out | with_reducible exact Below.refl _ _ | ((with_reducible refine Below.setCell ?_ ?_ _); rotate_left; focus (first | (simp; done) | (simp; omega) | omega)) | ((with_reducible refine Below.alloc ?_ ?_ _); rotate_left; focus (first | (simp; done) | (simp; omega) | omega)) | with_reducible refine Below.trans ?_ (below_drewN' _ _ _) | with_reducible refine Below.trans ?_ (below_drew _ _))))
set_option maxRecDepth 100000 in
set_option maxHeartbeats 8000000 in
theorem recv_fin (c s m o k : Int) (y z : Int) (w : World) (hv : vld s m o k false = true) (ho : (o != 0) = true) (hz : (z == prf c s m o true 2) = true)  : Calls Try.prog 12 #[.agg (jc c s m o k true false), .agg (hc3 3 y z)] w (RecvPost (jc c s m o (pw o s) true true) zh 0 w) := by
  have HZ := Lib.hid hz
  clear hz
  have HV := Lib.hid hv
  have KH := Lib.hid ((((Cs.new (w.alloc (.cells (jc c s m o k true false) 23)) (w.heap.size + 1) (hc3 3 y z) 25 (by simp)).alloc (.cells zj 23)).alloc (.cells zh 25)).alloc (.cells (jc c s m o k true false) 48))
  have KJ := Lib.hid (((Cs.new ((w.alloc (.cells (jc c s m o k true false) 23)).alloc (.cells (hc3 3 y z) 25)) (w.heap.size + 1 + 1) zj 23 (by simp)).alloc (.cells zh 25)).alloc (.cells (jc c s m o k true false) 48))
  have KR := Lib.hid ((Cs.new (((w.alloc (.cells (jc c s m o k true false) 23)).alloc (.cells (hc3 3 y z) 25)).alloc (.cells zj 23)) (w.heap.size + 1 + 1 + 1) zh 25 (by simp)).alloc (.cells (jc c s m o k true false) 48))
  have KS := Lib.hid (Cs.new ((((w.alloc (.cells (jc c s m o k true false) 23)).alloc (.cells (hc3 3 y z) 25)).alloc (.cells zj 23)).alloc (.cells zh 25)) (w.heap.size + 1 + 1 + 1 + 1) (jc c s m o k true false) 48 (by simp))
  have HB0 := Lib.hid (show Below w.heap.size w (((((w.alloc (.cells (jc c s m o k true false) 23)).alloc (.cells (hc3 3 y z) 25)).alloc (.cells zj 23)).alloc (.cells zh 25)).alloc (.cells (jc c s m o k true false) 48)) from (by repeat (first | with_reducible exact Below.refl _ _ | with_reducible exact Below.refl _ _ | ((with_reducible refine Below.setCell ?_ ?_ _); rotate_left; focus (first | (simp; done) | (simp; omega) | omega)) | ((with_reducible refine Below.alloc ?_ ?_ _); rotate_left; focus (first | (simp; done) | (simp; omega) | omega)) | with_reducible refine Below.trans ?_ (below_drewN' _ _ _) | with_reducible refine Below.trans ?_ (below_drew _ _))))
  clear hv
  go_enter Try.func12, Try.ntmps12
  go_wp2_with fail
  refine (isValid_any (w.heap.size + 1 + 1 + 1 + 1) c s m o k true false _ KS.out).mono ?_
  rintro e w1 ⟨rfl, b1⟩
  rw [HV.out]
  have KH1 := Lib.hid (KH.out.step b1)
  have KJ1 := Lib.hid (KJ.out.step b1)
  have KR1 := Lib.hid (KR.out.step b1)
  have KS1 := Lib.hid (KS.out.step b1)
  have HB1 := Lib.hid (HB0.out.trans (b1.mono (by simp; omega)))
  clear b1 KH KJ KR KS HB0
  have lt1 : w.heap.size + 1 < w1.heap.size := KH1.out.2.2
  have lt2 : w.heap.size + 1 + 1 < w1.heap.size := KJ1.out.2.2
  have lt3 : w.heap.size + 1 + 1 + 1 < w1.heap.size := KR1.out.2.2
  have lt4 : w.heap.size + 1 + 1 + 1 + 1 < w1.heap.size := KS1.out.2.2
  have KS1c0 : w1.cell? ⟨w.heap.size + 1 + 1 + 1 + 1, 0, none⟩ = some (.int .i64 c) := KS1.out.c 0 rfl
  have KS1f0 : w1.frozen? ⟨w.heap.size + 1 + 1 + 1 + 1, 0, none⟩ = false := KS1.out.f 0 (by simp)
  have KS1c1 : w1.cell? ⟨w.heap.size + 1 + 1 + 1 + 1, 1, none⟩ = some (.int .i64 s) := KS1.out.c 1 rfl
  have KS1f1 : w1.frozen? ⟨w.heap.size + 1 + 1 + 1 + 1, 1, none⟩ = false := KS1.out.f 1 (by simp)
  have KS1c2 : w1.cell? ⟨w.heap.size + 1 + 1 + 1 + 1, 2, none⟩ = some (.int .i64 m) := KS1.out.c 2 rfl
  have KS1f2 : w1.frozen? ⟨w.heap.size + 1 + 1 + 1 + 1, 2, none⟩ = false := KS1.out.f 2 (by simp)
  have KS1c3 : w1.cell? ⟨w.heap.size + 1 + 1 + 1 + 1, 3, none⟩ = some (.int .i64 o) := KS1.out.c 3 rfl
  have KS1f3 : w1.frozen? ⟨w.heap.size + 1 + 1 + 1 + 1, 3, none⟩ = false := KS1.out.f 3 (by simp)
  have KS1c4 : w1.cell? ⟨w.heap.size + 1 + 1 + 1 + 1, 4, none⟩ = some (.int .i64 k) := KS1.out.c 4 rfl
  have KS1f4 : w1.frozen? ⟨w.heap.size + 1 + 1 + 1 + 1, 4, none⟩ = false := KS1.out.f 4 (by simp)
  have KS1c5 : w1.cell? ⟨w.heap.size + 1 + 1 + 1 + 1, 5, none⟩ = some (.bool true) := KS1.out.c 5 rfl
  have KS1f5 : w1.frozen? ⟨w.heap.size + 1 + 1 + 1 + 1, 5, none⟩ = false := KS1.out.f 5 (by simp)
  have KS1c6 : w1.cell? ⟨w.heap.size + 1 + 1 + 1 + 1, 6, none⟩ = some (.bool false) := KS1.out.c 6 rfl
  have KS1f6 : w1.frozen? ⟨w.heap.size + 1 + 1 + 1 + 1, 6, none⟩ = false := KS1.out.f 6 (by simp)
  have KH1c0 : w1.cell? ⟨w.heap.size + 1, 0, none⟩ = some (.int .i64 3) := KH1.out.c 0 rfl
  have KH1c1 : w1.cell? ⟨w.heap.size + 1, 1, none⟩ = some (.int .i64 y) := KH1.out.c 1 rfl
  have KH1c2 : w1.cell? ⟨w.heap.size + 1, 2, none⟩ = some (.int .i64 z) := KH1.out.c 2 rfl
  have lu1 : w.heap.size + 1 < w1.heap.size + 1 := by omega
  have lu4 : w.heap.size + 1 + 1 + 1 + 1 < w1.heap.size + 1 := by omega
  go_wp2_with fail
  have KA2 := Lib.hid ((Cs.new w1 w1.heap.size zh 25 rfl).alloc (.cells #[.bool true, .bool false, .int .i64 3] 50))
  have KJ2 := Lib.hid ((KJ1.out.alloc (.cells zh 25)).alloc (.cells #[.bool true, .bool false, .int .i64 3] 50))
  have KR2 := Lib.hid ((KR1.out.alloc (.cells zh 25)).alloc (.cells #[.bool true, .bool false, .int .i64 3] 50))
  have KS2 := Lib.hid ((KS1.out.alloc (.cells zh 25)).alloc (.cells #[.bool true, .bool false, .int .i64 3] 50))
  have HB2 := Lib.hid (show Below w.heap.size w ((w1.alloc (.cells zh 25)).alloc (.cells #[.bool true, .bool false, .int .i64 3] 50)) from (by repeat (first | with_reducible exact HB1.out | with_reducible exact Below.refl _ _ | ((with_reducible refine Below.setCell ?_ ?_ _); rotate_left; focus (first | (simp; done) | (simp; omega) | omega)) | ((with_reducible refine Below.alloc ?_ ?_ _); rotate_left; focus (first | (simp; done) | (simp; omega) | omega)) | with_reducible refine Below.trans ?_ (below_drewN' _ _ _) | with_reducible refine Below.trans ?_ (below_drew _ _))))
  clear KS1c0 KS1f0 KS1c1 KS1f1 KS1c2 KS1f2 KS1c3 KS1f3 KS1c4 KS1f4 KS1c5 KS1f5 KS1c6 KS1f6 KH1c0 KH1c1 KH1c2 KH1 KJ1 KR1 KS1 HB1
  generalize ((w1.alloc (.cells zh 25)).alloc (.cells #[.bool true, .bool false, .int .i64 3] 50)) = w2 at *
  refine (finish_any (w.heap.size + 1 + 1 + 1 + 1) c s m o k true false 3 y z true _ KS2.out HZ.out).mono ?_
  rintro e w3 ⟨rfl, ht⟩
  have HT := Lib.hid ht
  clear ht
  have KS3 := Lib.hid HT.out.1
  have KA3 := Lib.hid (HT.out.2.2 _ _ (by omega) KA2.out)
  have KJ3 := Lib.hid (HT.out.2.2 _ _ (by omega) KJ2.out)
  have KR3 := Lib.hid (HT.out.2.2 _ _ (by omega) KR2.out)
  have HB3 := Lib.hid (HB2.out.trans (HT.out.2.1.mono (by omega)))
  clear HT KA2 KJ2 KR2 KS2 HB2
  go_wp2_with fail
  have KS4 := KS3
  have KJ4 := KJ3
  have KR4 := KR3
  have KA4 := KA3
  have HB4 := HB3
  clear KS3 KJ3 KR3 KA3 HB3
  generalize w3 = w4 at *
  have KS4c0 : w4.cell? ⟨w.heap.size + 1 + 1 + 1 + 1, 0, none⟩ = some (.int .i64 c) := KS4.out.c 0 rfl
  have KS4c1 : w4.cell? ⟨w.heap.size + 1 + 1 + 1 + 1, 1, none⟩ = some (.int .i64 s) := KS4.out.c 1 rfl
  have KS4c2 : w4.cell? ⟨w.heap.size + 1 + 1 + 1 + 1, 2, none⟩ = some (.int .i64 m) := KS4.out.c 2 rfl
  have KS4c3 : w4.cell? ⟨w.heap.size + 1 + 1 + 1 + 1, 3, none⟩ = some (.int .i64 o) := KS4.out.c 3 rfl
  have KS4c4 : w4.cell? ⟨w.heap.size + 1 + 1 + 1 + 1, 4, none⟩ = some (.int .i64 (pw o s)) := KS4.out.c 4 rfl
  have KS4c5 : w4.cell? ⟨w.heap.size + 1 + 1 + 1 + 1, 5, none⟩ = some (.bool true) := KS4.out.c 5 rfl
  have KS4c6 : w4.cell? ⟨w.heap.size + 1 + 1 + 1 + 1, 6, none⟩ = some (.bool true) := KS4.out.c 6 rfl
  have KA4c0 : w4.cell? ⟨w1.heap.size, 0, none⟩ = some (.int .i64 0) := KA4.out.c 0 rfl
  have KA4c1 : w4.cell? ⟨w1.heap.size, 1, none⟩ = some (.int .i64 0) := KA4.out.c 1 rfl
  have KA4c2 : w4.cell? ⟨w1.heap.size, 2, none⟩ = some (.int .i64 0) := KA4.out.c 2 rfl
  have KJ4c0 : w4.cell? ⟨w.heap.size + 1 + 1, 0, none⟩ = some (.int .i64 0) := KJ4.out.c 0 rfl
  have KJ4f0 : w4.frozen? ⟨w.heap.size + 1 + 1, 0, none⟩ = false := KJ4.out.f 0 (by simp)
  have KJ4c1 : w4.cell? ⟨w.heap.size + 1 + 1, 1, none⟩ = some (.int .i64 0) := KJ4.out.c 1 rfl
  have KJ4f1 : w4.frozen? ⟨w.heap.size + 1 + 1, 1, none⟩ = false := KJ4.out.f 1 (by simp)
  have KJ4c2 : w4.cell? ⟨w.heap.size + 1 + 1, 2, none⟩ = some (.int .i64 0) := KJ4.out.c 2 rfl
  have KJ4f2 : w4.frozen? ⟨w.heap.size + 1 + 1, 2, none⟩ = false := KJ4.out.f 2 (by simp)
  have KJ4c3 : w4.cell? ⟨w.heap.size + 1 + 1, 3, none⟩ = some (.int .i64 0) := KJ4.out.c 3 rfl
  have KJ4f3 : w4.frozen? ⟨w.heap.size + 1 + 1, 3, none⟩ = false := KJ4.out.f 3 (by simp)
  have KJ4c4 : w4.cell? ⟨w.heap.size + 1 + 1, 4, none⟩ = some (.int .i64 0) := KJ4.out.c 4 rfl
  have KJ4f4 : w4.frozen? ⟨w.heap.size + 1 + 1, 4, none⟩ = false := KJ4.out.f 4 (by simp)
  have KJ4c5 : w4.cell? ⟨w.heap.size + 1 + 1, 5, none⟩ = some (.bool false) := KJ4.out.c 5 rfl
  have KJ4f5 : w4.frozen? ⟨w.heap.size + 1 + 1, 5, none⟩ = false := KJ4.out.f 5 (by simp)
  have KJ4c6 : w4.cell? ⟨w.heap.size + 1 + 1, 6, none⟩ = some (.bool false) := KJ4.out.c 6 rfl
  have KJ4f6 : w4.frozen? ⟨w.heap.size + 1 + 1, 6, none⟩ = false := KJ4.out.f 6 (by simp)
  have KR4c0 : w4.cell? ⟨w.heap.size + 1 + 1 + 1, 0, none⟩ = some (.int .i64 0) := KR4.out.c 0 rfl
  have KR4f0 : w4.frozen? ⟨w.heap.size + 1 + 1 + 1, 0, none⟩ = false := KR4.out.f 0 (by simp)
  have KR4c1 : w4.cell? ⟨w.heap.size + 1 + 1 + 1, 1, none⟩ = some (.int .i64 0) := KR4.out.c 1 rfl
  have KR4f1 : w4.frozen? ⟨w.heap.size + 1 + 1 + 1, 1, none⟩ = false := KR4.out.f 1 (by simp)
  have KR4c2 : w4.cell? ⟨w.heap.size + 1 + 1 + 1, 2, none⟩ = some (.int .i64 0) := KR4.out.c 2 rfl
  have KR4f2 : w4.frozen? ⟨w.heap.size + 1 + 1 + 1, 2, none⟩ = false := KR4.out.f 2 (by simp)
  go_region
  all_goals go_wp2
  all_goals exact bodyPost_ret (v := .tuple #[.agg (jc c s m o (pw o s) true true), .agg zh, .int .i64 0]) (by simp [results, Try.results12, go_sem, KJ4c0, KJ4c1, KJ4c2, KJ4c3, KJ4c4, KJ4c5, KJ4c6, KR4c0, KR4c1, KR4c2]) rfl (RecvPost.mk (by repeat (first | with_reducible exact HB4.out | with_reducible exact Below.refl _ _ | ((with_reducible refine Below.setCell ?_ ?_ _); rotate_left; focus (first | (simp; done) | (simp; omega) | omega)) | ((with_reducible refine Below.alloc ?_ ?_ _); rotate_left; focus (first | (simp; done) | (simp; omega) | omega)) | with_reducible refine Below.trans ?_ (below_drewN' _ _ _) | with_reducible refine Below.trans ?_ (below_drew _ _))))
theorem recv_any {c s m o k : Int} {h d : Bool} {x y z er : Int} {J H : Array Value} (hw : RW c s m o k h d x y z er J H) (w : World) : Calls Try.prog 12 #[.agg (jc c s m o k h d), .agg (hc3 x y z)] w (RecvPost J H er w) := by
  cases hw with
  | arg hv => exact recv_arg c s m o k h d x y z w hv
  | done hv hd => subst hd; exact recv_done c s m o k h x y z w hv
  | dev hv hd hh hx => subst hd hh; exact recv_dev c s m o k x y z w hv hx
  | hub hv hd hh hx hx3 => subst hd hh; exact recv_hub c s m o k x y z w hv hx hx3
  | hub3 hv hd hh hx ho => subst hd hh hx; exact recv_hub3 c s m o k y z w hv ho
  | meetNo hv hd hh hx ha => subst hd hh hx; exact recv_meetNo c s m o k y z w hv ha
  | meet hv hd hh hx ha => subst hd hh hx; exact recv_meet c s m o k y z w hv ha
  | agreeNo hv hd hh hx ha => subst hd hh hx; exact recv_agreeNo c s m o k y z w hv ha
  | agreeBad hv hd hh hx ha hz => subst hd hh hx; exact recv_agreeBad c s m o k y z w hv ha hz
  | agree hv hd hh hx ha hz => subst hd hh hx; exact recv_agree c s m o k y z w hv ha hz
  | finBad hv hd hh hx ho hz => subst hd hh hx; exact recv_finBad c s m o k y z w hv ho hz
  | fin hv hd hh hx ho hz => subst hd hh hx; exact recv_fin c s m o k y z w hv ho hz
end Go.Proofs.Ytoggmladiakblaa
