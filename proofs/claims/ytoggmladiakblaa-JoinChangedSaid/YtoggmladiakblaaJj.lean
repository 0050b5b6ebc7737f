/- The contract of the reference's 'Receive': the ways that act. -/
import Derived.Test.YtoggmladiakblaaJi
import Derived.Deep.RegionLaw
namespace Go.Proofs.Ytoggmladiakblaa
open Go.RowKit

theorem keepS {w : World} {p q : Addr} {v x : Value} (h : w.cell? q = some v) (hne : p.block ≠ q.block) : (w.setCell p x).cell? q = some v := (World.cell?_setCell_far w p q x hne).trans h
set_option maxRecDepth 100000 in
set_option maxHeartbeats 8000000 in
theorem rrecv_meet (c s m o k : Int) (y z : Int) (w : World) (hv : vld s m o k false = true) (ha : accB y = true)  : Calls Try.prog 13 #[.agg (jc c s m o k true false), .agg (hc3 1 y z)] w (RecvPost (jc c s m y k true false) (hc3 2 m (prf c s m y true 1)) 0 w) := by
  have HA := Lib.hid ha
  clear ha
  have HV := Lib.hid hv
  have KS := Lib.hid ((((Cs.new w (w.heap.size) (jc c s m o k true false) 23 (by simp)).alloc (.cells (hc3 1 y z) 25)).alloc (.cells zj 23)).alloc (.cells zh 25))
  have KH := Lib.hid (((Cs.new (w.alloc (.cells (jc c s m o k true false) 23)) (w.heap.size + 1) (hc3 1 y z) 25 (by simp)).alloc (.cells zj 23)).alloc (.cells zh 25))
  have KJ := Lib.hid ((Cs.new ((w.alloc (.cells (jc c s m o k true false) 23)).alloc (.cells (hc3 1 y z) 25)) (w.heap.size + 1 + 1) zj 23 (by simp)).alloc (.cells zh 25))
  have KR := Lib.hid (Cs.new (((w.alloc (.cells (jc c s m o k true false) 23)).alloc (.cells (hc3 1 y z) 25)).alloc (.cells zj 23)) (w.heap.size + 1 + 1 + 1) zh 25 (by simp))
  have HB0 := Lib.hid (show Below w.heap.size w ((((w.alloc (.cells (jc c s m o k true false) 23)).alloc (.cells (hc3 1 y z) 25)).alloc (.cells zj 23)).alloc (.cells zh 25)) from (by repeat (first | with_reducible exact Below.refl _ _ | with_reducible exact Below.refl _ _ | ((with_reducible refine Below.setCell ?_ ?_ _); rotate_left; focus (first | (simp; done) | (simp; omega) | omega)) | ((with_reducible refine Below.alloc ?_ ?_ _); rotate_left; focus (first | (simp; done) | (simp; omega) | omega)) | with_reducible refine Below.trans ?_ (below_drewN' _ _ _) | with_reducible refine Below.trans ?_ (below_drew _ _))))
  clear hv
  go_enter Try.func13, Try.ntmps13
  go_wp2_with fail
  refine (rvalid_at c s m o k true false true _ HV.out).mono ?_
  rintro e w1 ⟨rfl, b1⟩
  have KS1 := Lib.hid (KS.out.step b1)
  have KH1 := Lib.hid (KH.out.step b1)
  have KJ1 := Lib.hid (KJ.out.step b1)
  have KR1 := Lib.hid (KR.out.step b1)
  have HB1x := Lib.hid (HB0.out.trans (b1.mono (by simp; omega)))
  clear b1 KS KH KJ KR HB0
  have lt0w1 : w.heap.size < w1.heap.size := KS1.out.2.2
  have lt1w1 : w.heap.size + 1 < w1.heap.size := KH1.out.2.2
  have lt2w1 : w.heap.size + 1 + 1 < w1.heap.size := KJ1.out.2.2
  have lt3w1 : w.heap.size + 1 + 1 + 1 < w1.heap.size := KR1.out.2.2
  have KS1c0 : w1.cell? ⟨w.heap.size, 0, none⟩ = some (.int .i64 c) := KS1.out.c 0 rfl
  have KS1c1 : w1.cell? ⟨w.heap.size, 1, none⟩ = some (.int .i64 s) := KS1.out.c 1 rfl
  have KS1c2 : w1.cell? ⟨w.heap.size, 2, none⟩ = some (.int .i64 m) := KS1.out.c 2 rfl
  have KS1c3 : w1.cell? ⟨w.heap.size, 3, none⟩ = some (.int .i64 o) := KS1.out.c 3 rfl
  have KS1c4 : w1.cell? ⟨w.heap.size, 4, none⟩ = some (.int .i64 k) := KS1.out.c 4 rfl
  have KS1c5 : w1.cell? ⟨w.heap.size, 5, none⟩ = some (.bool true) := KS1.out.c 5 rfl
  have KS1c6 : w1.cell? ⟨w.heap.size, 6, none⟩ = some (.bool false) := KS1.out.c 6 rfl
  have KH1c0 : w1.cell? ⟨w.heap.size + 1, 0, none⟩ = some (.int .i64 1) := KH1.out.c 0 rfl
  have KH1c1 : w1.cell? ⟨w.heap.size + 1, 1, none⟩ = some (.int .i64 y) := KH1.out.c 1 rfl
  have KH1c2 : w1.cell? ⟨w.heap.size + 1, 2, none⟩ = some (.int .i64 z) := KH1.out.c 2 rfl
  go_wp2_with fail
  refine (expects_at c s m o k true false 1 true _ (rfl)).mono ?_
  rintro e w2 ⟨rfl, b2⟩
  clear KS1c0 KS1c1 KS1c2 KS1c3 KS1c4 KS1c5 KS1c6 KH1c0 KH1c1 KH1c2 lt0w1 lt1w1 lt2w1 lt3w1
  have KS2 := Lib.hid (KS1.out.step b2)
  have KH2 := Lib.hid (KH1.out.step b2)
  have KJ2 := Lib.hid (KJ1.out.step b2)
  have KR2 := Lib.hid (KR1.out.step b2)
  have HB2x := Lib.hid (keep2 b2 HB1x.out)
  clear b2 KS1 KH1 KJ1 KR1 HB1x
  have lt0w2 : w.heap.size < w2.heap.size := KS2.out.2.2
  have lt1w2 : w.heap.size + 1 < w2.heap.size := KH2.out.2.2
  have lt2w2 : w.heap.size + 1 + 1 < w2.heap.size := KJ2.out.2.2
  have lt3w2 : w.heap.size + 1 + 1 + 1 < w2.heap.size := KR2.out.2.2
  have KH2c0 : w2.cell? ⟨w.heap.size + 1, 0, none⟩ = some (.int .i64 1) := KH2.out.c 0 rfl
  have KH2c1 : w2.cell? ⟨w.heap.size + 1, 1, none⟩ = some (.int .i64 y) := KH2.out.c 1 rfl
  have KH2c2 : w2.cell? ⟨w.heap.size + 1, 2, none⟩ = some (.int .i64 z) := KH2.out.c 2 rfl
  have KS2c0 : w2.cell? ⟨w.heap.size, 0, none⟩ = some (.int .i64 c) := KS2.out.c 0 rfl
  have KS2f0 : w2.frozen? ⟨w.heap.size, 0, none⟩ = false := KS2.out.f 0 (by simp)
  have KS2c1 : w2.cell? ⟨w.heap.size, 1, none⟩ = some (.int .i64 s) := KS2.out.c 1 rfl
  have KS2f1 : w2.frozen? ⟨w.heap.size, 1, none⟩ = false := KS2.out.f 1 (by simp)
  have KS2c2 : w2.cell? ⟨w.heap.size, 2, none⟩ = some (.int .i64 m) := KS2.out.c 2 rfl
  have KS2f2 : w2.frozen? ⟨w.heap.size, 2, none⟩ = false := KS2.out.f 2 (by simp)
  have KS2c3 : w2.cell? ⟨w.heap.size, 3, none⟩ = some (.int .i64 o) := KS2.out.c 3 rfl
  have KS2f3 : w2.frozen? ⟨w.heap.size, 3, none⟩ = false := KS2.out.f 3 (by simp)
  have KS2c4 : w2.cell? ⟨w.heap.size, 4, none⟩ = some (.int .i64 k) := KS2.out.c 4 rfl
  have KS2f4 : w2.frozen? ⟨w.heap.size, 4, none⟩ = false := KS2.out.f 4 (by simp)
  have KS2c5 : w2.cell? ⟨w.heap.size, 5, none⟩ = some (.bool true) := KS2.out.c 5 rfl
  have KS2f5 : w2.frozen? ⟨w.heap.size, 5, none⟩ = false := KS2.out.f 5 (by simp)
  have KS2c6 : w2.cell? ⟨w.heap.size, 6, none⟩ = some (.bool false) := KS2.out.c 6 rfl
  have KS2f6 : w2.frozen? ⟨w.heap.size, 6, none⟩ = false := KS2.out.f 6 (by simp)
  go_wp2_with fail
  refine (racc_at y true _ HA.out).mono ?_
  rintro e w3 ⟨rfl, rfl⟩
  go_wp2_with fail
  clear KS2c0 KS2f0 KS2c1 KS2f1 KS2c2 KS2f2 KS2c3 KS2f3 KS2c4 KS2f4 KS2c5 KS2f5 KS2c6 KS2f6 KH2c0 KH2c1 KH2c2
  have KS3 := Lib.hid (KS2.out.set 3 (by simp) (.int .i64 y) (vs' := #[.int .i64 c, .int .i64 s, .int .i64 m, .int .i64 y, .int .i64 k, .bool true, .bool false]) rfl)
  have KH3 := Lib.hid (KH2.out.other (b := w.heap.size) (by omega) 3 (.int .i64 y))
  have KJ3 := Lib.hid (KJ2.out.other (b := w.heap.size) (by omega) 3 (.int .i64 y))
  have KR3 := Lib.hid (KR2.out.other (b := w.heap.size) (by omega) 3 (.int .i64 y))
  have HB3x := Lib.hid (HB2x.out.setCell (p := ⟨w.heap.size, 3, none⟩) (Nat.le_refl _) (.int .i64 y))
  clear KS2 KH2 KJ2 KR2 HB2x
  generalize w2.setCell ⟨w.heap.size, 3, none⟩ (.int .i64 y) = w3 at *
  have hS : (fun w' : World => w'.cell? ⟨w.heap.size, 0, none⟩ = some (.int .i64 c) ∧ w'.cell? ⟨w.heap.size, 1, none⟩ = some (.int .i64 s) ∧ w'.cell? ⟨w.heap.size, 2, none⟩ = some (.int .i64 m) ∧ w'.cell? ⟨w.heap.size, 3, none⟩ = some (.int .i64 y) ∧ w'.cell? ⟨w.heap.size, 4, none⟩ = some (.int .i64 k) ∧ w'.cell? ⟨w.heap.size, 5, none⟩ = some (.bool true) ∧ w'.cell? ⟨w.heap.size, 6, none⟩ = some (.bool false)) w3.drew := ⟨KS3.out.c 0 rfl, KS3.out.c 1 rfl, KS3.out.c 2 rfl, KS3.out.c 3 rfl, KS3.out.c 4 rfl, KS3.out.c 5 rfl, KS3.out.c 6 rfl⟩
  have HJ9 := Lib.hid (show ∀ w', Below w3.drew.heap.size w3.drew w' → Cs w' (w.heap.size + 1 + 1) zj ∧ Cs w' (w.heap.size + 1 + 1 + 1) zh ∧ w.heap.size < w'.heap.size ∧ Below w.heap.size w w' from fun w' hb => ⟨(KJ3.out.step (below_drew _ _)).step hb, (KR3.out.step (below_drew _ _)).step hb, ((KS3.out.step (below_drew _ _)).step hb).2.2, (HB3x.out.trans (below_drew w.heap.size w3)).trans (hb.mono HB3x.out.size)⟩)
  have sc0 : w3.cell? ⟨w.heap.size, 0, none⟩ = some (.int .i64 c) := KS3.out.c 0 rfl
  have sc1 : w3.cell? ⟨w.heap.size, 1, none⟩ = some (.int .i64 s) := KS3.out.c 1 rfl
  have sc2 : w3.cell? ⟨w.heap.size, 2, none⟩ = some (.int .i64 m) := KS3.out.c 2 rfl
  have sc3 : w3.cell? ⟨w.heap.size, 3, none⟩ = some (.int .i64 y) := KS3.out.c 3 rfl
  have sc4 : w3.cell? ⟨w.heap.size, 4, none⟩ = some (.int .i64 k) := KS3.out.c 4 rfl
  have sc5 : w3.cell? ⟨w.heap.size, 5, none⟩ = some (.bool true) := KS3.out.c 5 rfl
  have sc6 : w3.cell? ⟨w.heap.size, 6, none⟩ = some (.bool false) := KS3.out.c 6 rfl
  have HS9 := Lib.hid (show ∀ w', Below w3.drew.heap.size w3.drew w' → Cs w' (w.heap.size) #[.int .i64 c, .int .i64 s, .int .i64 m, .int .i64 y, .int .i64 k, .bool true, .bool false] from fun w' hb => (KS3.out.step (below_drew _ _)).step hb)
  clear hS
  go_region_law ((go_simp; go_at_call 29; refine (rproof_any c s m y k true false y 1 _).mono ?_; rintro e w' ⟨rfl, hbq⟩; have hs := HS9.out _ hbq; obtain ⟨hj, hr, lt9, hb9⟩ := HJ9.out _ hbq; have HB9 := Lib.hid hb9; have KJ9c0 : w'.cell? ⟨w.heap.size + 1 + 1, 0, none⟩ = some (.int .i64 0) := hj.c 0 rfl; have KJ9f0 : w'.frozen? ⟨w.heap.size + 1 + 1, 0, none⟩ = false := hj.f 0 (by simp); have KJ9c1 : w'.cell? ⟨w.heap.size + 1 + 1, 1, none⟩ = some (.int .i64 0) := hj.c 1 rfl; have KJ9f1 : w'.frozen? ⟨w.heap.size + 1 + 1, 1, none⟩ = false := hj.f 1 (by simp); have KJ9c2 : w'.cell? ⟨w.heap.size + 1 + 1, 2, none⟩ = some (.int .i64 0) := hj.c 2 rfl; have KJ9f2 : w'.frozen? ⟨w.heap.size + 1 + 1, 2, none⟩ = false := hj.f 2 (by simp); have KJ9c3 : w'.cell? ⟨w.heap.size + 1 + 1, 3, none⟩ = some (.int .i64 0) := hj.c 3 rfl; have KJ9f3 : w'.frozen? ⟨w.heap.size + 1 + 1, 3, none⟩ = false := hj.f 3 (by simp); have KJ9c4 : w'.cell? ⟨w.heap.size + 1 + 1, 4, none⟩ = some (.int .i64 0) := hj.c 4 rfl; have KJ9f4 : w'.frozen? ⟨w.heap.size + 1 + 1, 4, none⟩ = false := hj.f 4 (by simp); have KJ9c5 : w'.cell? ⟨w.heap.size + 1 + 1, 5, none⟩ = some (.bool false) := hj.c 5 rfl; have KJ9f5 : w'.frozen? ⟨w.heap.size + 1 + 1, 5, none⟩ = false := hj.f 5 (by simp); have KJ9c6 : w'.cell? ⟨w.heap.size + 1 + 1, 6, none⟩ = some (.bool false) := hj.c 6 rfl; have KJ9f6 : w'.frozen? ⟨w.heap.size + 1 + 1, 6, none⟩ = false := hj.f 6 (by simp); have KR9c0 : w'.cell? ⟨w.heap.size + 1 + 1 + 1, 0, none⟩ = some (.int .i64 0) := hr.c 0 rfl; have KR9f0 : w'.frozen? ⟨w.heap.size + 1 + 1 + 1, 0, none⟩ = false := hr.f 0 (by simp); have KR9c1 : w'.cell? ⟨w.heap.size + 1 + 1 + 1, 1, none⟩ = some (.int .i64 0) := hr.c 1 rfl; have KR9f1 : w'.frozen? ⟨w.heap.size + 1 + 1 + 1, 1, none⟩ = false := hr.f 1 (by simp); have KR9c2 : w'.cell? ⟨w.heap.size + 1 + 1 + 1, 2, none⟩ = some (.int .i64 0) := hr.c 2 rfl; have KR9f2 : w'.frozen? ⟨w.heap.size + 1 + 1 + 1, 2, none⟩ = false := hr.f 2 (by simp); clear hj hr hb9; have sd0 : w'.cell? ⟨w.heap.size, 0, none⟩ = some (.int .i64 c) := hs.c 0 rfl; have sd1 : w'.cell? ⟨w.heap.size, 1, none⟩ = some (.int .i64 s) := hs.c 1 rfl; have sd2 : w'.cell? ⟨w.heap.size, 2, none⟩ = some (.int .i64 m) := hs.c 2 rfl; have sd3 : w'.cell? ⟨w.heap.size, 3, none⟩ = some (.int .i64 y) := hs.c 3 rfl; have sd4 : w'.cell? ⟨w.heap.size, 4, none⟩ = some (.int .i64 k) := hs.c 4 rfl; have sd5 : w'.cell? ⟨w.heap.size, 5, none⟩ = some (.bool true) := hs.c 5 rfl; have sd6 : w'.cell? ⟨w.heap.size, 6, none⟩ = some (.bool false) := hs.c 6 rfl; clear hs))
  all_goals clear hbq
  all_goals go_wp2
  all_goals exact bodyPost_ret (v := .tuple #[.agg (jc c s m y k true false), .agg (hc3 2 m (prf c s m y true 1)), .int .i64 0]) (by simp [results, Try.results13, go_sem, KJ9c0, KJ9c1, KJ9c2, KJ9c3, KJ9c4, KJ9c5, KJ9c6, KR9c0, KR9c1, KR9c2]) rfl (RecvPost.mk (by repeat (first | with_reducible exact HB9.out | with_reducible exact Below.refl _ _ | ((with_reducible refine Below.setCell ?_ ?_ _); rotate_left; focus (first | (simp; done) | (simp; omega) | omega)) | ((with_reducible refine Below.alloc ?_ ?_ _); rotate_left; focus (first | (simp; done) | (simp; omega) | omega)) | with_reducible refine Below.trans ?_ (below_drewN' _ _ _) | with_reducible refine Below.trans ?_ (below_drew _ _))))
end Go.Proofs.Ytoggmladiakblaa
