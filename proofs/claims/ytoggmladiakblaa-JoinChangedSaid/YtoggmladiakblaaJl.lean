/- The contract of the reference's 'Receive': the ways that act. -/
import Derived.Test.YtoggmladiakblaaJj
import Derived.Deep.RegionLaw
namespace Go.Proofs.Ytoggmladiakblaa
open Go.RowKit

set_option maxRecDepth 100000 in
set_option maxHeartbeats 8000000 in
theorem rrecv_fin (c s m o k : Int) (y z : Int) (w : World) (hv : vld s m o k false = true) (ho : (o != 0) = true) (hz : (z == prf c s m o true 2) = true)  : Calls Try.prog 13 #[.agg (jc c s m o k true false), .agg (hc3 3 y z)] w (RecvPost (jc c s m o (pw o s) true true) zh 0 w) := by
  have HO := Lib.hid ho
  have HZ := Lib.hid hz
  clear ho hz
  have HV := Lib.hid hv
  have KS := Lib.hid ((((Cs.new w (w.heap.size) (jc c s m o k true false) 23 (by simp)).alloc (.cells (hc3 3 y z) 25)).alloc (.cells zj 23)).alloc (.cells zh 25))
  have KH := Lib.hid (((Cs.new (w.alloc (.cells (jc c s m o k true false) 23)) (w.heap.size + 1) (hc3 3 y z) 25 (by simp)).alloc (.cells zj 23)).alloc (.cells zh 25))
  have KJ := Lib.hid ((Cs.new ((w.alloc (.cells (jc c s m o k true false) 23)).alloc (.cells (hc3 3 y z) 25)) (w.heap.size + 1 + 1) zj 23 (by simp)).alloc (.cells zh 25))
  have KR := Lib.hid (Cs.new (((w.alloc (.cells (jc c s m o k true false) 23)).alloc (.cells (hc3 3 y z) 25)).alloc (.cells zj 23)) (w.heap.size + 1 + 1 + 1) zh 25 (by simp))
  have HB0 := Lib.hid (show Below w.heap.size w ((((w.alloc (.cells (jc c s m o k true false) 23)).alloc (.cells (hc3 3 y z) 25)).alloc (.cells zj 23)).alloc (.cells zh 25)) from (by repeat (first | with_reducible exact Below.refl _ _ | with_reducible exact Below.refl _ _ | ((with_reducible refine Below.setCell ?_ ?_ _); rotate_left; focus (first | (simp; done) | (simp; omega) | omega)) | ((with_reducible refine Below.alloc ?_ ?_ _); rotate_left; focus (first | (simp; done) | (simp; omega) | omega)) | with_reducible refine Below.trans ?_ (below_drewN' _ _ _) | with_reducible refine Below.trans ?_ (below_drew _ _))))
  clear hv
  go_enter Try.func13, Try.ntmps13
  go_wp2_with fail
  refine (rvalid_at c s m o k true false true _ HV.out).mono ?_
  rintro e w1 ⟨rfl, b1⟩
  have KS1 := Lib.hid (KS.out.step b1)
  have KH1 := Lib.hid (KH.out.step b1)
  have KJ1 := Lib.hid (KJ.out.step b1)
  have KR1 := Lib.hid (KR.out.step b1)
  have HB1x := Lib.hid (HB0.out.trans (b1.mono (by simp; omega)))
  clear b1 KS KH KJ KR HB0
  have lt0w1 : w.heap.size < w1.heap.size := KS1.out.2.2
  have lt1w1 : w.heap.size + 1 < w1.heap.size := KH1.out.2.2
  have lt2w1 : w.heap.size + 1 + 1 < w1.heap.size := KJ1.out.2.2
  have lt3w1 : w.heap.size + 1 + 1 + 1 < w1.heap.size := KR1.out.2.2
  have KS1c0 : w1.cell? ⟨w.heap.size, 0, none⟩ = some (.int .i64 c) := KS1.out.c 0 rfl
  have KS1c1 : w1.cell? ⟨w.heap.size, 1, none⟩ = some (.int .i64 s) := KS1.out.c 1 rfl
  have KS1c2 : w1.cell? ⟨w.heap.size, 2, none⟩ = some (.int .i64 m) := KS1.out.c 2 rfl
  have KS1c3 : w1.cell? ⟨w.heap.size, 3, none⟩ = some (.int .i64 o) := KS1.out.c 3 rfl
  have KS1c4 : w1.cell? ⟨w.heap.size, 4, none⟩ = some (.int .i64 k) := KS1.out.c 4 rfl
  have KS1c5 : w1.cell? ⟨w.heap.size, 5, none⟩ = some (.bool true) := KS1.out.c 5 rfl
  have KS1c6 : w1.cell? ⟨w.heap.size, 6, none⟩ = some (.bool false) := KS1.out.c 6 rfl
  have KH1c0 : w1.cell? ⟨w.heap.size + 1, 0, none⟩ = some (.int .i64 3) := KH1.out.c 0 rfl
  have KH1c1 : w1.cell? ⟨w.heap.size + 1, 1, none⟩ = some (.int .i64 y) := KH1.out.c 1 rfl
  have KH1c2 : w1.cell? ⟨w.heap.size + 1, 2, none⟩ = some (.int .i64 z) := KH1.out.c 2 rfl
  go_wp2_with fail
  refine (expects_at c s m o k true false 3 true _ (by unfold expB; simp only [HO.out]; rfl)).mono ?_
  rintro e w2 ⟨rfl, b2⟩
  clear KS1c0 KS1c1 KS1c2 KS1c3 KS1c4 KS1c5 KS1c6 KH1c0 KH1c1 KH1c2 lt0w1 lt1w1 lt2w1 lt3w1
  have KS2 := Lib.hid (KS1.out.step b2)
  have KH2 := Lib.hid (KH1.out.step b2)
  have KJ2 := Lib.hid (KJ1.out.step b2)
  have KR2 := Lib.hid (KR1.out.step b2)
  have HB2x := Lib.hid (keep2 b2 HB1x.out)
  clear b2 KS1 KH1 KJ1 KR1 HB1x
  have lt0w2 : w.heap.size < w2.heap.size := KS2.out.2.2
  have lt1w2 : w.heap.size + 1 < w2.heap.size := KH2.out.2.2
  have lt2w2 : w.heap.size + 1 + 1 < w2.heap.size := KJ2.out.2.2
  have lt3w2 : w.heap.size + 1 + 1 + 1 < w2.heap.size := KR2.out.2.2
  have KH2c0 : w2.cell? ⟨w.heap.size + 1, 0, none⟩ = some (.int .i64 3) := KH2.out.c 0 rfl
  have KH2c1 : w2.cell? ⟨w.heap.size + 1, 1, none⟩ = some (.int .i64 y) := KH2.out.c 1 rfl
  have KH2c2 : w2.cell? ⟨w.heap.size + 1, 2, none⟩ = some (.int .i64 z) := KH2.out.c 2 rfl
  go_wp2_with fail
  have hS : (fun w' : World => Below w2.heap.size w2 w' ∧ w'.cell? ⟨w.heap.size, 0, none⟩ = some (.int .i64 c) ∧ w'.cell? ⟨w.heap.size, 1, none⟩ = some (.int .i64 s) ∧ w'.cell? ⟨w.heap.size, 2, none⟩ = some (.int .i64 m) ∧ w'.cell? ⟨w.heap.size, 3, none⟩ = some (.int .i64 o) ∧ w'.cell? ⟨w.heap.size, 4, none⟩ = some (.int .i64 k) ∧ w'.cell? ⟨w.heap.size, 5, none⟩ = some (.bool true) ∧ w'.cell? ⟨w.heap.size, 6, none⟩ = some (.bool false) ∧ w'.cell? ⟨w.heap.size + 1, 1, none⟩ = some (.int .i64 y) ∧ w'.cell? ⟨w.heap.size + 1, 2, none⟩ = some (.int .i64 z)) w2.drew := ⟨below_drew _ _, KS2.out.c 0 rfl, KS2.out.c 1 rfl, KS2.out.c 2 rfl, KS2.out.c 3 rfl, KS2.out.c 4 rfl, KS2.out.c 5 rfl, KS2.out.c 6 rfl, KH2.out.c 1 rfl, KH2.out.c 2 rfl⟩
  go_region_held3 (fun w' => Below w2.heap.size w2 w' ∧ w'.cell? ⟨w.heap.size, 0, none⟩ = some (.int .i64 c) ∧ w'.cell? ⟨w.heap.size, 1, none⟩ = some (.int .i64 s) ∧ w'.cell? ⟨w.heap.size, 2, none⟩ = some (.int .i64 m) ∧ w'.cell? ⟨w.heap.size, 3, none⟩ = some (.int .i64 o) ∧ w'.cell? ⟨w.heap.size, 4, none⟩ = some (.int .i64 k) ∧ w'.cell? ⟨w.heap.size, 5, none⟩ = some (.bool true) ∧ w'.cell? ⟨w.heap.size, 6, none⟩ = some (.bool false) ∧ w'.cell? ⟨w.heap.size + 1, 1, none⟩ = some (.int .i64 y) ∧ w'.cell? ⟨w.heap.size + 1, 2, none⟩ = some (.int .i64 z))
    (first | (go_split_ands; refine ⟨?_, ?_, ?_, ?_, ?_, ?_, ?_, ?_, ?_, ?_⟩ <;> first | assumption | exact keep1 hbq (by assumption) | exact keep2 hbq (by assumption)) | go_keep)
    (first | (go_at_call 29; refine (rproof_any c s m o k true false o 2 _).mono ?_; rintro e w' ⟨rfl, hbq⟩))
  have hS9 : Below w2.heap.size w2 w' ∧ w'.cell? ⟨w.heap.size, 0, none⟩ = some (.int .i64 c) ∧ w'.cell? ⟨w.heap.size, 1, none⟩ = some (.int .i64 s) ∧ w'.cell? ⟨w.heap.size, 2, none⟩ = some (.int .i64 m) ∧ w'.cell? ⟨w.heap.size, 3, none⟩ = some (.int .i64 o) ∧ w'.cell? ⟨w.heap.size, 4, none⟩ = some (.int .i64 k) ∧ w'.cell? ⟨w.heap.size, 5, none⟩ = some (.bool true) ∧ w'.cell? ⟨w.heap.size, 6, none⟩ = some (.bool false) ∧ w'.cell? ⟨w.heap.size + 1, 1, none⟩ = some (.int .i64 y) ∧ w'.cell? ⟨w.heap.size + 1, 2, none⟩ = some (.int .i64 z) := by first | assumption | exact ⟨by assumption, by assumption, by assumption, by assumption, by assumption, by assumption, by assumption, by assumption, by assumption, by assumption⟩
  have b3 := hS9.1
  clear hS9 KH2c0 KH2c1 KH2c2
  have HZ2 := Lib.hid (show (z != prf c s m o true 2) = false by have := HZ.out; simp only [bne, this]; rfl)
  have KS3 := Lib.hid (KS2.out.step b3)
  have KH3 := Lib.hid (KH2.out.step b3)
  have KJ3 := Lib.hid (KJ2.out.step b3)
  have KR3 := Lib.hid (KR2.out.step b3)
  have HB3x := Lib.hid (keep2 b3 HB2x.out)
  clear b3 KS2 KH2 KJ2 KR2 HB2x
  generalize w' = w3 at *
  have hz2 := HZ2.out
  have lt0w3 : w.heap.size < w3.heap.size := KS3.out.2.2
  have lt1w3 : w.heap.size + 1 < w3.heap.size := KH3.out.2.2
  have lt2w3 : w.heap.size + 1 + 1 < w3.heap.size := KJ3.out.2.2
  have lt3w3 : w.heap.size + 1 + 1 + 1 < w3.heap.size := KR3.out.2.2
  have KS3c0 : w3.cell? ⟨w.heap.size, 0, none⟩ = some (.int .i64 c) := KS3.out.c 0 rfl
  have KS3f0 : w3.frozen? ⟨w.heap.size, 0, none⟩ = false := KS3.out.f 0 (by simp)
  have KS3c1 : w3.cell? ⟨w.heap.size, 1, none⟩ = some (.int .i64 s) := KS3.out.c 1 rfl
  have KS3f1 : w3.frozen? ⟨w.heap.size, 1, none⟩ = false := KS3.out.f 1 (by simp)
  have KS3c2 : w3.cell? ⟨w.heap.size, 2, none⟩ = some (.int .i64 m) := KS3.out.c 2 rfl
  have KS3f2 : w3.frozen? ⟨w.heap.size, 2, none⟩ = false := KS3.out.f 2 (by simp)
  have KS3c3 : w3.cell? ⟨w.heap.size, 3, none⟩ = some (.int .i64 o) := KS3.out.c 3 rfl
  have KS3f3 : w3.frozen? ⟨w.heap.size, 3, none⟩ = false := KS3.out.f 3 (by simp)
  have KS3c4 : w3.cell? ⟨w.heap.size, 4, none⟩ = some (.int .i64 k) := KS3.out.c 4 rfl
  have KS3f4 : w3.frozen? ⟨w.heap.size, 4, none⟩ = false := KS3.out.f 4 (by simp)
  have KS3c5 : w3.cell? ⟨w.heap.size, 5, none⟩ = some (.bool true) := KS3.out.c 5 rfl
  have KS3f5 : w3.frozen? ⟨w.heap.size, 5, none⟩ = false := KS3.out.f 5 (by simp)
  have KS3c6 : w3.cell? ⟨w.heap.size, 6, none⟩ = some (.bool false) := KS3.out.c 6 rfl
  have KS3f6 : w3.frozen? ⟨w.heap.size, 6, none⟩ = false := KS3.out.f 6 (by simp)
  have KH3c0 : w3.cell? ⟨w.heap.size + 1, 0, none⟩ = some (.int .i64 3) := KH3.out.c 0 rfl
  have KH3c1 : w3.cell? ⟨w.heap.size + 1, 1, none⟩ = some (.int .i64 y) := KH3.out.c 1 rfl
  have KH3c2 : w3.cell? ⟨w.heap.size + 1, 2, none⟩ = some (.int .i64 z) := KH3.out.c 2 rfl
  go_wp2_with fail
  clear KS3c0 KS3f0 KS3c1 KS3f1 KS3c2 KS3f2 KS3c3 KS3f3 KS3c4 KS3f4 KS3c5 KS3f5 KS3c6 KS3f6 KH3c0 KH3c1 KH3c2 lt0w3 lt1w3 lt2w3 lt3w3
  refine (rkey_any c s m o k true false o _).mono ?_
  rintro e w5 ⟨rfl, b5⟩
  have KS5 := Lib.hid (KS3.out.step b5)
  have KH5 := Lib.hid (KH3.out.step b5)
  have KJ5 := Lib.hid (KJ3.out.step b5)
  have KR5 := Lib.hid (KR3.out.step b5)
  have HB5x := Lib.hid (keep2 b5 HB3x.out)
  clear b5 KS3 KH3 KJ3 KR3 HB3x
  have lt0w5 : w.heap.size < w5.heap.size := KS5.out.2.2
  have lt1w5 : w.heap.size + 1 < w5.heap.size := KH5.out.2.2
  have lt2w5 : w.heap.size + 1 + 1 < w5.heap.size := KJ5.out.2.2
  have lt3w5 : w.heap.size + 1 + 1 + 1 < w5.heap.size := KR5.out.2.2
  have KS5c0 : w5.cell? ⟨w.heap.size, 0, none⟩ = some (.int .i64 c) := KS5.out.c 0 rfl
  have KS5f0 : w5.frozen? ⟨w.heap.size, 0, none⟩ = false := KS5.out.f 0 (by simp)
  have KS5c1 : w5.cell? ⟨w.heap.size, 1, none⟩ = some (.int .i64 s) := KS5.out.c 1 rfl
  have KS5f1 : w5.frozen? ⟨w.heap.size, 1, none⟩ = false := KS5.out.f 1 (by simp)
  have KS5c2 : w5.cell? ⟨w.heap.size, 2, none⟩ = some (.int .i64 m) := KS5.out.c 2 rfl
  have KS5f2 : w5.frozen? ⟨w.heap.size, 2, none⟩ = false := KS5.out.f 2 (by simp)
  have KS5c3 : w5.cell? ⟨w.heap.size, 3, none⟩ = some (.int .i64 o) := KS5.out.c 3 rfl
  have KS5f3 : w5.frozen? ⟨w.heap.size, 3, none⟩ = false := KS5.out.f 3 (by simp)
  have KS5c4 : w5.cell? ⟨w.heap.size, 4, none⟩ = some (.int .i64 k) := KS5.out.c 4 rfl
  have KS5f4 : w5.frozen? ⟨w.heap.size, 4, none⟩ = false := KS5.out.f 4 (by simp)
  have KS5c5 : w5.cell? ⟨w.heap.size, 5, none⟩ = some (.bool true) := KS5.out.c 5 rfl
  have KS5f5 : w5.frozen? ⟨w.heap.size, 5, none⟩ = false := KS5.out.f 5 (by simp)
  have KS5c6 : w5.cell? ⟨w.heap.size, 6, none⟩ = some (.bool false) := KS5.out.c 6 rfl
  have KS5f6 : w5.frozen? ⟨w.heap.size, 6, none⟩ = false := KS5.out.f 6 (by simp)
  have KJ5c0 : w5.cell? ⟨w.heap.size + 1 + 1, 0, none⟩ = some (.int .i64 0) := KJ5.out.c 0 rfl
  have KJ5f0 : w5.frozen? ⟨w.heap.size + 1 + 1, 0, none⟩ = false := KJ5.out.f 0 (by simp)
  have KJ5c1 : w5.cell? ⟨w.heap.size + 1 + 1, 1, none⟩ = some (.int .i64 0) := KJ5.out.c 1 rfl
  have KJ5f1 : w5.frozen? ⟨w.heap.size + 1 + 1, 1, none⟩ = false := KJ5.out.f 1 (by simp)
  have KJ5c2 : w5.cell? ⟨w.heap.size + 1 + 1, 2, none⟩ = some (.int .i64 0) := KJ5.out.c 2 rfl
  have KJ5f2 : w5.frozen? ⟨w.heap.size + 1 + 1, 2, none⟩ = false := KJ5.out.f 2 (by simp)
  have KJ5c3 : w5.cell? ⟨w.heap.size + 1 + 1, 3, none⟩ = some (.int .i64 0) := KJ5.out.c 3 rfl
  have KJ5f3 : w5.frozen? ⟨w.heap.size + 1 + 1, 3, none⟩ = false := KJ5.out.f 3 (by simp)
  have KJ5c4 : w5.cell? ⟨w.heap.size + 1 + 1, 4, none⟩ = some (.int .i64 0) := KJ5.out.c 4 rfl
  have KJ5f4 : w5.frozen? ⟨w.heap.size + 1 + 1, 4, none⟩ = false := KJ5.out.f 4 (by simp)
  have KJ5c5 : w5.cell? ⟨w.heap.size + 1 + 1, 5, none⟩ = some (.bool false) := KJ5.out.c 5 rfl
  have KJ5f5 : w5.frozen? ⟨w.heap.size + 1 + 1, 5, none⟩ = false := KJ5.out.f 5 (by simp)
  have KJ5c6 : w5.cell? ⟨w.heap.size + 1 + 1, 6, none⟩ = some (.bool false) := KJ5.out.c 6 rfl
  have KJ5f6 : w5.frozen? ⟨w.heap.size + 1 + 1, 6, none⟩ = false := KJ5.out.f 6 (by simp)
  have KR5c0 : w5.cell? ⟨w.heap.size + 1 + 1 + 1, 0, none⟩ = some (.int .i64 0) := KR5.out.c 0 rfl
  have KR5f0 : w5.frozen? ⟨w.heap.size + 1 + 1 + 1, 0, none⟩ = false := KR5.out.f 0 (by simp)
  have KR5c1 : w5.cell? ⟨w.heap.size + 1 + 1 + 1, 1, none⟩ = some (.int .i64 0) := KR5.out.c 1 rfl
  have KR5f1 : w5.frozen? ⟨w.heap.size + 1 + 1 + 1, 1, none⟩ = false := KR5.out.f 1 (by simp)
  have KR5c2 : w5.cell? ⟨w.heap.size + 1 + 1 + 1, 2, none⟩ = some (.int .i64 0) := KR5.out.c 2 rfl
  have KR5f2 : w5.frozen? ⟨w.heap.size + 1 + 1 + 1, 2, none⟩ = false := KR5.out.f 2 (by simp)
  go_wp2
  exact bodyPost_ret (v := .tuple #[.agg (jc c s m o (pw o s) true true), .agg zh, .int .i64 0]) (by simp [results, Try.results13, go_sem, KJ5c0, KJ5c1, KJ5c2, KJ5c3, KJ5c4, KJ5c5, KJ5c6, KR5c0, KR5c1, KR5c2]) rfl (RecvPost.mk (by repeat (first | with_reducible exact HB5x.out | with_reducible exact Below.refl _ _ | ((with_reducible refine Below.setCell ?_ ?_ _); rotate_left; focus (first | (simp; done) | (simp; omega) | omega)) | ((with_reducible refine Below.alloc ?_ ?_ _); rotate_left; focus (first | (simp; done) | (simp; omega) | omega)) | with_reducible refine Below.trans ?_ (below_drewN' _ _ _) | with_reducible refine Below.trans ?_ (below_drew _ _))))
end Go.Proofs.Ytoggmladiakblaa
