/- The contract of 'Receive'. -/
import Derived.Test.YtoggmladiakblaaJe
namespace Go.Proofs.Ytoggmladiakblaa
open Go.RowKit

abbrev zj : Array Value := jc 0 0 0 0 0 false false
abbrev zh : Array Value := hc3 0 0 0
/-- What 'Receive' gives. -/
inductive RW (c s m o k : Int) (h d : Bool) (x y z : Int) : Int → Array Value → Array Value → Prop
  | arg : vld s m o k d = false → RW c s m o k h d x y z 1 zj zh
  | done : vld s m o k d = true → d = true → RW c s m o k h d x y z 28 zj zh
  | dev : vld s m o k d = true → d = false → h = false → (x == 2) = false → RW c s m o k h d x y z 28 zj zh
  | hub : vld s m o k d = true → d = false → h = true → (x == 1) = false → (x == 3) = false → RW c s m o k h d x y z 28 zj zh
  | hub3 : vld s m o k d = true → d = false → h = true → x = 3 → (o != 0) = false → RW c s m o k h d x y z 28 zj zh
  | meetNo : vld s m o k d = true → d = false → h = true → x = 1 → accB y = false → RW c s m o k h d x y z 1 zj zh
  | meet : vld s m o k d = true → d = false → h = true → x = 1 → accB y = true → RW c s m o k h d x y z 0 (jc c s m y k h d) (hc3 2 m (prf c s m y h 1))
  | agreeNo : vld s m o k d = true → d = false → h = false → x = 2 → accB y = false → RW c s m o k h d x y z 1 zj zh
  | agreeBad : vld s m o k d = true → d = false → h = false → x = 2 → accB y = true → (z == prf c s m y h 1) = false → RW c s m o k h d x y z 17 zj zh
  | agree : vld s m o k d = true → d = false → h = false → x = 2 → accB y = true → (z == prf c s m y h 1) = true → RW c s m o k h d x y z 0 (jc c s m y (pw y s) h true) (hc3 3 0 (prf c s m y h 2))
  | finBad : vld s m o k d = true → d = false → h = true → x = 3 → (o != 0) = true → (z == prf c s m o h 2) = false → RW c s m o k h d x y z 17 zj zh
  | fin : vld s m o k d = true → d = false → h = true → x = 3 → (o != 0) = true → (z == prf c s m o h 2) = true → RW c s m o k h d x y z 0 (jc c s m o (pw o s) h true) zh
theorem rw_total (c s m o k : Int) (h d : Bool) (x y z : Int) : ∃ er J H, RW c s m o k h d x y z er J H := by
  cases hv : vld s m o k d
  · exact ⟨_, _, _, .arg hv⟩
  · cases d
    · cases h
      · by_cases hx : x = 2
        · cases ha : accB y
          · exact ⟨_, _, _, .agreeNo hv rfl rfl hx ha⟩
          · cases hz : (z == prf c s m y false 1)
            · exact ⟨_, _, _, .agreeBad hv rfl rfl hx ha hz⟩
            · exact ⟨_, _, _, .agree hv rfl rfl hx ha hz⟩
        · exact ⟨_, _, _, .dev hv rfl rfl (by simpa using hx)⟩
      · by_cases hx : x = 1
        · cases ha : accB y
          · exact ⟨_, _, _, .meetNo hv rfl rfl hx ha⟩
          · exact ⟨_, _, _, .meet hv rfl rfl hx ha⟩
        · by_cases hx3 : x = 3
          · cases ho : (o != 0)
            · exact ⟨_, _, _, .hub3 hv rfl rfl hx3 ho⟩
            · cases hz : (z == prf c s m o true 2)
              · exact ⟨_, _, _, .finBad hv rfl rfl hx3 ho hz⟩
              · exact ⟨_, _, _, .fin hv rfl rfl hx3 ho hz⟩
          · exact ⟨_, _, _, .hub hv rfl rfl (by simpa using hx) (by simpa using hx3)⟩
    · exact ⟨_, _, _, .done hv rfl⟩
def RecvPost (J H : Array Value) (er : Int) (w : World) (e : Ending) (w' : World) : Prop := e = .returned (.tuple #[.agg J, .agg H, .int .i64 er]) ∧ Below w.heap.size w w'
theorem RecvPost.mk {J H : Array Value} {er : Int} {w w' : World} (h : Below w.heap.size w w') : RecvPost J H er w (.returned (.tuple #[.agg J, .agg H, .int .i64 er])) w' := ⟨rfl, h⟩
set_option maxRecDepth 100000 in
set_option maxHeartbeats 8000000 in
theorem recv_arg (c s m o k : Int) (h d : Bool) (x y z : Int) (w : World) (hv : vld s m o k d = false) : Calls Try.prog 12 #[.agg (jc c s m o k h d), .agg (hc3 x y z)] w (RecvPost zj zh 1 w) := by
  have HV := Lib.hid hv
  have KH := Lib.hid ((((Cs.new (w.alloc (.cells (jc c s m o k h d) 23)) (w.heap.size + 1) (hc3 x y z) 25 (by simp)).alloc (.cells zj 23)).alloc (.cells zh 25)).alloc (.cells (jc c s m o k h d) 48))
  have KJ := Lib.hid (((Cs.new ((w.alloc (.cells (jc c s m o k h d) 23)).alloc (.cells (hc3 x y z) 25)) (w.heap.size + 1 + 1) zj 23 (by simp)).alloc (.cells zh 25)).alloc (.cells (jc c s m o k h d) 48))
  have KR := Lib.hid ((Cs.new (((w.alloc (.cells (jc c s m o k h d) 23)).alloc (.cells (hc3 x y z) 25)).alloc (.cells zj 23)) (w.heap.size + 1 + 1 + 1) zh 25 (by simp)).alloc (.cells (jc c s m o k h d) 48))
  have KS := Lib.hid (Cs.new ((((w.alloc (.cells (jc c s m o k h d) 23)).alloc (.cells (hc3 x y z) 25)).alloc (.cells zj 23)).alloc (.cells zh 25)) (w.heap.size + 1 + 1 + 1 + 1) (jc c s m o k h d) 48 (by simp))
  have HB0 := Lib.hid (show Below w.heap.size w (((((w.alloc (.cells (jc c s m o k h d) 23)).alloc (.cells (hc3 x y z) 25)).alloc (.cells zj 23)).alloc (.cells zh 25)).alloc (.cells (jc c s m o k h d) 48)) from (by repeat (first | with_reducible exact Below.refl _ _ | with_reducible exact Below.refl _ _ | ((with_reducible refine Below.setCell ?_ ?_ _); rotate_left; focus (first | (simp; done) | (simp; omega) | omega)) | ((with_reducible refine Below.alloc ?_ ?_ _); rotate_left; focus (first | (simp; done) | (simp; omega) | omega)) | with_reducible refine Below.trans ?_ (below_drewN' _ _ _) | with_reducible refine Below.trans ?_ (below_drew _ _))))
  clear hv
  go_enter Try.func12, Try.ntmps12
  go_wp2_with fail
  refine (isValid_any (w.heap.size + 1 + 1 + 1 + 1) c s m o k h d _ KS.out).mono ?_
  rintro e w1 ⟨rfl, b1⟩
  rw [HV.out]
  have KH1 := Lib.hid (KH.out.step b1)
  have KJ1 := Lib.hid (KJ.out.step b1)
  have KR1 := Lib.hid (KR.out.step b1)
  have KS1 := Lib.hid (KS.out.step b1)
  have HB1 := Lib.hid (HB0.out.trans (b1.mono (by simp; omega)))
  clear b1 KH KJ KR KS HB0
  have KJ1c0 : w1.cell? ⟨w.heap.size + 1 + 1, 0, none⟩ = some (.int .i64 0) := KJ1.out.c 0 rfl
  have KJ1f0 : w1.frozen? ⟨w.heap.size + 1 + 1, 0, none⟩ = false := KJ1.out.f 0 (by simp)
  have KJ1c1 : w1.cell? ⟨w.heap.size + 1 + 1, 1, none⟩ = some (.int .i64 0) := KJ1.out.c 1 rfl
  have KJ1f1 : w1.frozen? ⟨w.heap.size + 1 + 1, 1, none⟩ = false := KJ1.out.f 1 (by simp)
  have KJ1c2 : w1.cell? ⟨w.heap.size + 1 + 1, 2, none⟩ = some (.int .i64 0) := KJ1.out.c 2 rfl
  have KJ1f2 : w1.frozen? ⟨w.heap.size + 1 + 1, 2, none⟩ = false := KJ1.out.f 2 (by simp)
  have KJ1c3 : w1.cell? ⟨w.heap.size + 1 + 1, 3, none⟩ = some (.int .i64 0) := KJ1.out.c 3 rfl
  have KJ1f3 : w1.frozen? ⟨w.heap.size + 1 + 1, 3, none⟩ = false := KJ1.out.f 3 (by simp)
  have KJ1c4 : w1.cell? ⟨w.heap.size + 1 + 1, 4, none⟩ = some (.int .i64 0) := KJ1.out.c 4 rfl
  have KJ1f4 : w1.frozen? ⟨w.heap.size + 1 + 1, 4, none⟩ = false := KJ1.out.f 4 (by simp)
  have KJ1c5 : w1.cell? ⟨w.heap.size + 1 + 1, 5, none⟩ = some (.bool false) := KJ1.out.c 5 rfl
  have KJ1f5 : w1.frozen? ⟨w.heap.size + 1 + 1, 5, none⟩ = false := KJ1.out.f 5 (by simp)
  have KJ1c6 : w1.cell? ⟨w.heap.size + 1 + 1, 6, none⟩ = some (.bool false) := KJ1.out.c 6 rfl
  have KJ1f6 : w1.frozen? ⟨w.heap.size + 1 + 1, 6, none⟩ = false := KJ1.out.f 6 (by simp)
  have KR1c0 : w1.cell? ⟨w.heap.size + 1 + 1 + 1, 0, none⟩ = some (.int .i64 0) := KR1.out.c 0 rfl
  have KR1f0 : w1.frozen? ⟨w.heap.size + 1 + 1 + 1, 0, none⟩ = false := KR1.out.f 0 (by simp)
  have KR1c1 : w1.cell? ⟨w.heap.size + 1 + 1 + 1, 1, none⟩ = some (.int .i64 0) := KR1.out.c 1 rfl
  have KR1f1 : w1.frozen? ⟨w.heap.size + 1 + 1 + 1, 1, none⟩ = false := KR1.out.f 1 (by simp)
  have KR1c2 : w1.cell? ⟨w.heap.size + 1 + 1 + 1, 2, none⟩ = some (.int .i64 0) := KR1.out.c 2 rfl
  have KR1f2 : w1.frozen? ⟨w.heap.size + 1 + 1 + 1, 2, none⟩ = false := KR1.out.f 2 (by simp)
  go_wp2
  exact bodyPost_ret (v := .tuple #[.agg zj, .agg zh, .int .i64 1]) (by simp [results, Try.results12, go_sem, KJ1c0, KJ1c1, KJ1c2, KJ1c3, KJ1c4, KJ1c5, KJ1c6, KR1c0, KR1c1, KR1c2]) rfl (RecvPost.mk (by repeat (first | with_reducible exact HB1.out | with_reducible exact Below.refl _ _ | ((with_reducible refine Below.setCell ?_ ?_ _); rotate_left; focus (first | (simp; done) | (simp; omega) | omega)) | ((with_reducible refine Below.alloc ?_ ?_ _); rotate_left; focus (first | (simp; done) | (simp; omega) | omega)) | with_reducible refine Below.trans ?_ (below_drewN' _ _ _) | with_reducible refine Below.trans ?_ (below_drew _ _))))
set_option maxRecDepth 100000 in
set_option maxHeartbeats 8000000 in
theorem recv_done (c s m o k : Int) (h : Bool) (x y z : Int) (w : World) (hv : vld s m o k true = true)  : Calls Try.prog 12 #[.agg (jc c s m o k h true), .agg (hc3 x y z)] w (RecvPost zj zh 28 w) := by
  cases h <;> skip
  · have HV := Lib.hid hv
    have KH := Lib.hid ((((Cs.new (w.alloc (.cells (jc c s m o k false true) 23)) (w.heap.size + 1) (hc3 x y z) 25 (by simp)).alloc (.cells zj 23)).alloc (.cells zh 25)).alloc (.cells (jc c s m o k false true) 48))
    have KJ := Lib.hid (((Cs.new ((w.alloc (.cells (jc c s m o k false true) 23)).alloc (.cells (hc3 x y z) 25)) (w.heap.size + 1 + 1) zj 23 (by simp)).alloc (.cells zh 25)).alloc (.cells (jc c s m o k false true) 48))
    have KR := Lib.hid ((Cs.new (((w.alloc (.cells (jc c s m o k false true) 23)).alloc (.cells (hc3 x y z) 25)).alloc (.cells zj 23)) (w.heap.size + 1 + 1 + 1) zh 25 (by simp)).alloc (.cells (jc c s m o k false true) 48))
    have KS := Lib.hid (Cs.new ((((w.alloc (.cells (jc c s m o k false true) 23)).alloc (.cells (hc3 x y z) 25)).alloc (.cells zj 23)).alloc (.cells zh 25)) (w.heap.size + 1 + 1 + 1 + 1) (jc c s m o k false true) 48 (by simp))
    have HB0 := Lib.hid (show Below w.heap.size w (((((w.alloc (.cells (jc c s m o k false true) 23)).alloc (.cells (hc3 x y z) 25)).alloc (.cells zj 23)).alloc (.cells zh 25)).alloc (.cells (jc c s m o k false true) 48)) from (by repeat (first | with_reducible exact Below.refl _ _ | with_reducible exact Below.refl _ _ | ((with_reducible refine Below.setCell ?_ ?_ _); rotate_left; focus (first | (simp; done) | (simp; omega) | omega)) | ((with_reducible refine Below.alloc ?_ ?_ _); rotate_left; focus (first | (simp; done) | (simp; omega) | omega)) | with_reducible refine Below.trans ?_ (below_drewN' _ _ _) | with_reducible refine Below.trans ?_ (below_drew _ _))))
    clear hv
    go_enter Try.func12, Try.ntmps12
    go_wp2_with fail
    refine (isValid_any (w.heap.size + 1 + 1 + 1 + 1) c s m o k false true _ KS.out).mono ?_
    rintro e w1 ⟨rfl, b1⟩
    rw [HV.out]
    have KH1 := Lib.hid (KH.out.step b1)
    have KJ1 := Lib.hid (KJ.out.step b1)
    have KR1 := Lib.hid (KR.out.step b1)
    have KS1 := Lib.hid (KS.out.step b1)
    have HB1 := Lib.hid (HB0.out.trans (b1.mono (by simp; omega)))
    clear b1 KH KJ KR KS HB0
    have lt1 : w.heap.size + 1 < w1.heap.size := KH1.out.2.2
    have lt2 : w.heap.size + 1 + 1 < w1.heap.size := KJ1.out.2.2
    have lt3 : w.heap.size + 1 + 1 + 1 < w1.heap.size := KR1.out.2.2
    have lt4 : w.heap.size + 1 + 1 + 1 + 1 < w1.heap.size := KS1.out.2.2
    have KJ1c0 : w1.cell? ⟨w.heap.size + 1 + 1, 0, none⟩ = some (.int .i64 0) := KJ1.out.c 0 rfl
    have KJ1f0 : w1.frozen? ⟨w.heap.size + 1 + 1, 0, none⟩ = false := KJ1.out.f 0 (by simp)
    have KJ1c1 : w1.cell? ⟨w.heap.size + 1 + 1, 1, none⟩ = some (.int .i64 0) := KJ1.out.c 1 rfl
    have KJ1f1 : w1.frozen? ⟨w.heap.size + 1 + 1, 1, none⟩ = false := KJ1.out.f 1 (by simp)
    have KJ1c2 : w1.cell? ⟨w.heap.size + 1 + 1, 2, none⟩ = some (.int .i64 0) := KJ1.out.c 2 rfl
    have KJ1f2 : w1.frozen? ⟨w.heap.size + 1 + 1, 2, none⟩ = false := KJ1.out.f 2 (by simp)
    have KJ1c3 : w1.cell? ⟨w.heap.size + 1 + 1, 3, none⟩ = some (.int .i64 0) := KJ1.out.c 3 rfl
    have KJ1f3 : w1.frozen? ⟨w.heap.size + 1 + 1, 3, none⟩ = false := KJ1.out.f 3 (by simp)
    have KJ1c4 : w1.cell? ⟨w.heap.size + 1 + 1, 4, none⟩ = some (.int .i64 0) := KJ1.out.c 4 rfl
    have KJ1f4 : w1.frozen? ⟨w.heap.size + 1 + 1, 4, none⟩ = false := KJ1.out.f 4 (by simp)
    have KJ1c5 : w1.cell? ⟨w.heap.size + 1 + 1, 5, none⟩ = some (.bool false) := KJ1.out.c 5 rfl
    have KJ1f5 : w1.frozen? ⟨w.heap.size + 1 + 1, 5, none⟩ = false := KJ1.out.f 5 (by simp)
    have KJ1c6 : w1.cell? ⟨w.heap.size + 1 + 1, 6, none⟩ = some (.bool false) := KJ1.out.c 6 rfl
    have KJ1f6 : w1.frozen? ⟨w.heap.size + 1 + 1, 6, none⟩ = false := KJ1.out.f 6 (by simp)
    have KR1c0 : w1.cell? ⟨w.heap.size + 1 + 1 + 1, 0, none⟩ = some (.int .i64 0) := KR1.out.c 0 rfl
    have KR1f0 : w1.frozen? ⟨w.heap.size + 1 + 1 + 1, 0, none⟩ = false := KR1.out.f 0 (by simp)
    have KR1c1 : w1.cell? ⟨w.heap.size + 1 + 1 + 1, 1, none⟩ = some (.int .i64 0) := KR1.out.c 1 rfl
    have KR1f1 : w1.frozen? ⟨w.heap.size + 1 + 1 + 1, 1, none⟩ = false := KR1.out.f 1 (by simp)
    have KR1c2 : w1.cell? ⟨w.heap.size + 1 + 1 + 1, 2, none⟩ = some (.int .i64 0) := KR1.out.c 2 rfl
    have KR1f2 : w1.frozen? ⟨w.heap.size + 1 + 1 + 1, 2, none⟩ = false := KR1.out.f 2 (by simp)
    have KS1c0 : w1.cell? ⟨w.heap.size + 1 + 1 + 1 + 1, 0, none⟩ = some (.int .i64 c) := KS1.out.c 0 rfl
    have KS1f0 : w1.frozen? ⟨w.heap.size + 1 + 1 + 1 + 1, 0, none⟩ = false := KS1.out.f 0 (by simp)
    have KS1c1 : w1.cell? ⟨w.heap.size + 1 + 1 + 1 + 1, 1, none⟩ = some (.int .i64 s) := KS1.out.c 1 rfl
    have KS1f1 : w1.frozen? ⟨w.heap.size + 1 + 1 + 1 + 1, 1, none⟩ = false := KS1.out.f 1 (by simp)
    have KS1c2 : w1.cell? ⟨w.heap.size + 1 + 1 + 1 + 1, 2, none⟩ = some (.int .i64 m) := KS1.out.c 2 rfl
    have KS1f2 : w1.frozen? ⟨w.heap.size + 1 + 1 + 1 + 1, 2, none⟩ = false := KS1.out.f 2 (by simp)
    have KS1c3 : w1.cell? ⟨w.heap.size + 1 + 1 + 1 + 1, 3, none⟩ = some (.int .i64 o) := KS1.out.c 3 rfl
    have KS1f3 : w1.frozen? ⟨w.heap.size + 1 + 1 + 1 + 1, 3, none⟩ = false := KS1.out.f 3 (by simp)
    have KS1c4 : w1.cell? ⟨w.heap.size + 1 + 1 + 1 + 1, 4, none⟩ = some (.int .i64 k) := KS1.out.c 4 rfl
    have KS1f4 : w1.frozen? ⟨w.heap.size + 1 + 1 + 1 + 1, 4, none⟩ = false := KS1.out.f 4 (by simp)
    have KS1c5 : w1.cell? ⟨w.heap.size + 1 + 1 + 1 + 1, 5, none⟩ = some (.bool false) := KS1.out.c 5 rfl
    have KS1f5 : w1.frozen? ⟨w.heap.size + 1 + 1 + 1 + 1, 5, none⟩ = false := KS1.out.f 5 (by simp)
    have KS1c6 : w1.cell? ⟨w.heap.size + 1 + 1 + 1 + 1, 6, none⟩ = some (.bool true) := KS1.out.c 6 rfl
    have KS1f6 : w1.frozen? ⟨w.heap.size + 1 + 1 + 1 + 1, 6, none⟩ = false := KS1.out.f 6 (by simp)
    have KH1c0 : w1.cell? ⟨w.heap.size + 1, 0, none⟩ = some (.int .i64 x) := KH1.out.c 0 rfl
    have KH1c1 : w1.cell? ⟨w.heap.size + 1, 1, none⟩ = some (.int .i64 y) := KH1.out.c 1 rfl
    have KH1c2 : w1.cell? ⟨w.heap.size + 1, 2, none⟩ = some (.int .i64 z) := KH1.out.c 2 rfl
    go_wp2
    exact bodyPost_ret (v := .tuple #[.agg zj, .agg zh, .int .i64 28]) (by simp [results, Try.results12, go_sem, KJ1c0, KJ1c1, KJ1c2, KJ1c3, KJ1c4, KJ1c5, KJ1c6, KR1c0, KR1c1, KR1c2, lt1, lt2, lt3]) rfl (RecvPost.mk (by repeat (first | with_reducible exact HB1.out | with_reducible exact Below.refl _ _ | ((with_reducible refine Below.setCell ?_ ?_ _); rotate_left; focus (first | (simp; done) | (simp; omega) | omega)) | ((with_reducible refine Below.alloc ?_ ?_ _); rotate_left; focus (first | (simp; done) | (simp; omega) | omega)) | with_reducible refine Below.trans ?_ (below_drewN' _ _ _) | with_reducible refine Below.trans ?_ (below_drew _ _))))
  · have HV := Lib.hid hv
    have KH := Lib.hid ((((Cs.new (w.alloc (.cells (jc c s m o k true true) 23)) (w.heap.size + 1) (hc3 x y z) 25 (by simp)).alloc (.cells zj 23)).alloc (.cells zh 25)).alloc (.cells (jc c s m o k true true) 48))
    have KJ := Lib.hid (((Cs.new ((w.alloc (.cells (jc c s m o k true true) 23)).alloc (.cells (hc3 x y z) 25)) (w.heap.size + 1 + 1) zj 23 (by simp)).alloc (.cells zh 25)).alloc (.cells (jc c s m o k true true) 48))
    have KR := Lib.hid ((Cs.new (((w.alloc (.cells (jc c s m o k true true) 23)).alloc (.cells (hc3 x y z) 25)).alloc (.cells zj 23)) (w.heap.size + 1 + 1 + 1) zh 25 (by simp)).alloc (.cells (jc c s m o k true true) 48))
    have KS := Lib.hid (Cs.new ((((w.alloc (.cells (jc c s m o k true true) 23)).alloc (.cells (hc3 x y z) 25)).alloc (.cells zj 23)).alloc (.cells zh 25)) (w.heap.size + 1 + 1 + 1 + 1) (jc c s m o k true true) 48 (by simp))
    have HB0 := Lib.hid (show Below w.heap.size w (((((w.alloc (.cells (jc c s m o k true true) 23)).alloc (.cells (hc3 x y z) 25)).alloc (.cells zj 23)).alloc (.cells zh 25)).alloc (.cells (jc c s m o k true true) 48)) from (by repeat (first | with_reducible exact Below.refl _ _ | with_reducible exact Below.refl _ _ | ((with_reducible refine Below.setCell ?_ ?_ _); rotate_left; focus (first | (simp; done) | (simp; omega) | omega)) | ((with_reducible refine Below.alloc ?_ ?_ _); rotate_left; focus (first | (simp; done) | (simp; omega) | omega)) | with_reducible refine Below.trans ?_ (below_drewN' _ _ _) | with_reducible refine Below.trans ?_ (below_drew _ _))))
    clear hv
    go_enter Try.func12, Try.ntmps12
    go_wp2_with fail
    refine (isValid_any (w.heap.size + 1 + 1 + 1 + 1) c s m o k true true _ KS.out).mono ?_
    rintro e w1 ⟨rfl, b1⟩
    rw [HV.out]
    have KH1 := Lib.hid (KH.out.step b1)
    have KJ1 := Lib.hid (KJ.out.step b1)
    have KR1 := Lib.hid (KR.out.step b1)
    have KS1 := Lib.hid (KS.out.step b1)
    have HB1 := Lib.hid (HB0.out.trans (b1.mono (by simp; omega)))
    clear b1 KH KJ KR KS HB0
    have lt1 : w.heap.size + 1 < w1.heap.size := KH1.out.2.2
    have lt2 : w.heap.size + 1 + 1 < w1.heap.size := KJ1.out.2.2
    have lt3 : w.heap.size + 1 + 1 + 1 < w1.heap.size := KR1.out.2.2
    have lt4 : w.heap.size + 1 + 1 + 1 + 1 < w1.heap.size := KS1.out.2.2
    have KJ1c0 : w1.cell? ⟨w.heap.size + 1 + 1, 0, none⟩ = some (.int .i64 0) := KJ1.out.c 0 rfl
    have KJ1f0 : w1.frozen? ⟨w.heap.size + 1 + 1, 0, none⟩ = false := KJ1.out.f 0 (by simp)
    have KJ1c1 : w1.cell? ⟨w.heap.size + 1 + 1, 1, none⟩ = some (.int .i64 0) := KJ1.out.c 1 rfl
    have KJ1f1 : w1.frozen? ⟨w.heap.size + 1 + 1, 1, none⟩ = false := KJ1.out.f 1 (by simp)
    have KJ1c2 : w1.cell? ⟨w.heap.size + 1 + 1, 2, none⟩ = some (.int .i64 0) := KJ1.out.c 2 rfl
    have KJ1f2 : w1.frozen? ⟨w.heap.size + 1 + 1, 2, none⟩ = false := KJ1.out.f 2 (by simp)
    have KJ1c3 : w1.cell? ⟨w.heap.size + 1 + 1, 3, none⟩ = some (.int .i64 0) := KJ1.out.c 3 rfl
    have KJ1f3 : w1.frozen? ⟨w.heap.size + 1 + 1, 3, none⟩ = false := KJ1.out.f 3 (by simp)
    have KJ1c4 : w1.cell? ⟨w.heap.size + 1 + 1, 4, none⟩ = some (.int .i64 0) := KJ1.out.c 4 rfl
    have KJ1f4 : w1.frozen? ⟨w.heap.size + 1 + 1, 4, none⟩ = false := KJ1.out.f 4 (by simp)
    have KJ1c5 : w1.cell? ⟨w.heap.size + 1 + 1, 5, none⟩ = some (.bool false) := KJ1.out.c 5 rfl
    have KJ1f5 : w1.frozen? ⟨w.heap.size + 1 + 1, 5, none⟩ = false := KJ1.out.f 5 (by simp)
    have KJ1c6 : w1.cell? ⟨w.heap.size + 1 + 1, 6, none⟩ = some (.bool false) := KJ1.out.c 6 rfl
    have KJ1f6 : w1.frozen? ⟨w.heap.size + 1 + 1, 6, none⟩ = false := KJ1.out.f 6 (by simp)
    have KR1c0 : w1.cell? ⟨w.heap.size + 1 + 1 + 1, 0, none⟩ = some (.int .i64 0) := KR1.out.c 0 rfl
    have KR1f0 : w1.frozen? ⟨w.heap.size + 1 + 1 + 1, 0, none⟩ = false := KR1.out.f 0 (by simp)
    have KR1c1 : w1.cell? ⟨w.heap.size + 1 + 1 + 1, 1, none⟩ = some (.int .i64 0) := KR1.out.c 1 rfl
    have KR1f1 : w1.frozen? ⟨w.heap.size + 1 + 1 + 1, 1, none⟩ = false := KR1.out.f 1 (by simp)
    have KR1c2 : w1.cell? ⟨w.heap.size + 1 + 1 + 1, 2, none⟩ = some (.int .i64 0) := KR1.out.c 2 rfl
    have KR1f2 : w1.frozen? ⟨w.heap.size + 1 + 1 + 1, 2, none⟩ = false := KR1.out.f 2 (by simp)
    have KS1c0 : w1.cell? ⟨w.heap.size + 1 + 1 + 1 + 1, 0, none⟩ = some (.int .i64 c) := KS1.out.c 0 rfl
    have KS1f0 : w1.frozen? ⟨w.heap.size + 1 + 1 + 1 + 1, 0, none⟩ = false := KS1.out.f 0 (by simp)
    have KS1c1 : w1.cell? ⟨w.heap.size + 1 + 1 + 1 + 1, 1, none⟩ = some (.int .i64 s) := KS1.out.c 1 rfl
    have KS1f1 : w1.frozen? ⟨w.heap.size + 1 + 1 + 1 + 1, 1, none⟩ = false := KS1.out.f 1 (by simp)
    have KS1c2 : w1.cell? ⟨w.heap.size + 1 + 1 + 1 + 1, 2, none⟩ = some (.int .i64 m) := KS1.out.c 2 rfl
    have KS1f2 : w1.frozen? ⟨w.heap.size + 1 + 1 + 1 + 1, 2, none⟩ = false := KS1.out.f 2 (by simp)
    have KS1c3 : w1.cell? ⟨w.heap.size + 1 + 1 + 1 + 1, 3, none⟩ = some (.int .i64 o) := KS1.out.c 3 rfl
    have KS1f3 : w1.frozen? ⟨w.heap.size + 1 + 1 + 1 + 1, 3, none⟩ = false := KS1.out.f 3 (by simp)
    have KS1c4 : w1.cell? ⟨w.heap.size + 1 + 1 + 1 + 1, 4, none⟩ = some (.int .i64 k) := KS1.out.c 4 rfl
    have KS1f4 : w1.frozen? ⟨w.heap.size + 1 + 1 + 1 + 1, 4, none⟩ = false := KS1.out.f 4 (by simp)
    have KS1c5 : w1.cell? ⟨w.heap.size + 1 + 1 + 1 + 1, 5, none⟩ = some (.bool true) := KS1.out.c 5 rfl
    have KS1f5 : w1.frozen? ⟨w.heap.size + 1 + 1 + 1 + 1, 5, none⟩ = false := KS1.out.f 5 (by simp)
    have KS1c6 : w1.cell? ⟨w.heap.size + 1 + 1 + 1 + 1, 6, none⟩ = some (.bool true) := KS1.out.c 6 rfl
    have KS1f6 : w1.frozen? ⟨w.heap.size + 1 + 1 + 1 + 1, 6, none⟩ = false := KS1.out.f 6 (by simp)
    have KH1c0 : w1.cell? ⟨w.heap.size + 1, 0, none⟩ = some (.int .i64 x) := KH1.out.c 0 rfl
    have KH1c1 : w1.cell? ⟨w.heap.size + 1, 1, none⟩ = some (.int .i64 y) := KH1.out.c 1 rfl
    have KH1c2 : w1.cell? ⟨w.heap.size + 1, 2, none⟩ = some (.int .i64 z) := KH1.out.c 2 rfl
    go_wp2
    exact bodyPost_ret (v := .tuple #[.agg zj, .agg zh, .int .i64 28]) (by simp [results, Try.results12, go_sem, KJ1c0, KJ1c1, KJ1c2, KJ1c3, KJ1c4, KJ1c5, KJ1c6, KR1c0, KR1c1, KR1c2, lt1, lt2, lt3]) rfl (RecvPost.mk (by repeat (first | with_reducible exact HB1.out | with_reducible exact Below.refl _ _ | ((with_reducible refine Below.setCell ?_ ?_ _); rotate_left; focus (first | (simp; done) | (simp; omega) | omega)) | ((with_reducible refine Below.alloc ?_ ?_ _); rotate_left; focus (first | (simp; done) | (simp; omega) | omega)) | with_reducible refine Below.trans ?_ (below_drewN' _ _ _) | with_reducible refine Below.trans ?_ (below_drew _ _))))
set_option maxRecDepth 100000 in
set_option maxHeartbeats 8000000 in
theorem recv_dev (c s m o k : Int) (x y z : Int) (w : World) (hv : vld s m o k false = true) (hx : (x == 2) = false)  : Calls Try.prog 12 #[.agg (jc c s m o k false false), .agg (hc3 x y z)] w (RecvPost zj zh 28 w) := by
  have HV := Lib.hid hv
  have KH := Lib.hid ((((Cs.new (w.alloc (.cells (jc c s m o k false false) 23)) (w.heap.size + 1) (hc3 x y z) 25 (by simp)).alloc (.cells zj 23)).alloc (.cells zh 25)).alloc (.cells (jc c s m o k false false) 48))
  have KJ := Lib.hid (((Cs.new ((w.alloc (.cells (jc c s m o k false false) 23)).alloc (.cells (hc3 x y z) 25)) (w.heap.size + 1 + 1) zj 23 (by simp)).alloc (.cells zh 25)).alloc (.cells (jc c s m o k false false) 48))
  have KR := Lib.hid ((Cs.new (((w.alloc (.cells (jc c s m o k false false) 23)).alloc (.cells (hc3 x y z) 25)).alloc (.cells zj 23)) (w.heap.size + 1 + 1 + 1) zh 25 (by simp)).alloc (.cells (jc c s m o k false false) 48))
  have KS := Lib.hid (Cs.new ((((w.alloc (.cells (jc c s m o k false false) 23)).alloc (.cells (hc3 x y z) 25)).alloc (.cells zj 23)).alloc (.cells zh 25)) (w.heap.size + 1 + 1 + 1 + 1) (jc c s m o k false false) 48 (by simp))
  have HB0 := Lib.hid (show Below w.heap.size w (((((w.alloc (.cells (jc c s m o k false false) 23)).alloc (.cells (hc3 x y z) 25)).alloc (.cells zj 23)).alloc (.cells zh 25)).alloc (.cells (jc c s m o k false false) 48)) from (by repeat (first | with_reducible exact Below.refl _ _ | with_reducible exact Below.refl _ _ | ((with_reducible refine Below.setCell ?_ ?_ _); rotate_left; focus (first | (simp; done) | (simp; omega) | omega)) | ((with_reducible refine Below.alloc ?_ ?_ _); rotate_left; focus (first | (simp; done) | (simp; omega) | omega)) | with_reducible refine Below.trans ?_ (below_drewN' _ _ _) | with_reducible refine Below.trans ?_ (below_drew _ _))))
  clear hv
  go_enter Try.func12, Try.ntmps12
  go_wp2_with fail
  refine (isValid_any (w.heap.size + 1 + 1 + 1 + 1) c s m o k false false _ KS.out).mono ?_
  rintro e w1 ⟨rfl, b1⟩
  rw [HV.out]
  have KH1 := Lib.hid (KH.out.step b1)
  have KJ1 := Lib.hid (KJ.out.step b1)
  have KR1 := Lib.hid (KR.out.step b1)
  have KS1 := Lib.hid (KS.out.step b1)
  have HB1 := Lib.hid (HB0.out.trans (b1.mono (by simp; omega)))
  clear b1 KH KJ KR KS HB0
  have lt1 : w.heap.size + 1 < w1.heap.size := KH1.out.2.2
  have lt2 : w.heap.size + 1 + 1 < w1.heap.size := KJ1.out.2.2
  have lt3 : w.heap.size + 1 + 1 + 1 < w1.heap.size := KR1.out.2.2
  have lt4 : w.heap.size + 1 + 1 + 1 + 1 < w1.heap.size := KS1.out.2.2
  have KJ1c0 : w1.cell? ⟨w.heap.size + 1 + 1, 0, none⟩ = some (.int .i64 0) := KJ1.out.c 0 rfl
  have KJ1f0 : w1.frozen? ⟨w.heap.size + 1 + 1, 0, none⟩ = false := KJ1.out.f 0 (by simp)
  have KJ1c1 : w1.cell? ⟨w.heap.size + 1 + 1, 1, none⟩ = some (.int .i64 0) := KJ1.out.c 1 rfl
  have KJ1f1 : w1.frozen? ⟨w.heap.size + 1 + 1, 1, none⟩ = false := KJ1.out.f 1 (by simp)
  have KJ1c2 : w1.cell? ⟨w.heap.size + 1 + 1, 2, none⟩ = some (.int .i64 0) := KJ1.out.c 2 rfl
  have KJ1f2 : w1.frozen? ⟨w.heap.size + 1 + 1, 2, none⟩ = false := KJ1.out.f 2 (by simp)
  have KJ1c3 : w1.cell? ⟨w.heap.size + 1 + 1, 3, none⟩ = some (.int .i64 0) := KJ1.out.c 3 rfl
  have KJ1f3 : w1.frozen? ⟨w.heap.size + 1 + 1, 3, none⟩ = false := KJ1.out.f 3 (by simp)
  have KJ1c4 : w1.cell? ⟨w.heap.size + 1 + 1, 4, none⟩ = some (.int .i64 0) := KJ1.out.c 4 rfl
  have KJ1f4 : w1.frozen? ⟨w.heap.size + 1 + 1, 4, none⟩ = false := KJ1.out.f 4 (by simp)
  have KJ1c5 : w1.cell? ⟨w.heap.size + 1 + 1, 5, none⟩ = some (.bool false) := KJ1.out.c 5 rfl
  have KJ1f5 : w1.frozen? ⟨w.heap.size + 1 + 1, 5, none⟩ = false := KJ1.out.f 5 (by simp)
  have KJ1c6 : w1.cell? ⟨w.heap.size + 1 + 1, 6, none⟩ = some (.bool false) := KJ1.out.c 6 rfl
  have KJ1f6 : w1.frozen? ⟨w.heap.size + 1 + 1, 6, none⟩ = false := KJ1.out.f 6 (by simp)
  have KR1c0 : w1.cell? ⟨w.heap.size + 1 + 1 + 1, 0, none⟩ = some (.int .i64 0) := KR1.out.c 0 rfl
  have KR1f0 : w1.frozen? ⟨w.heap.size + 1 + 1 + 1, 0, none⟩ = false := KR1.out.f 0 (by simp)
  have KR1c1 : w1.cell? ⟨w.heap.size + 1 + 1 + 1, 1, none⟩ = some (.int .i64 0) := KR1.out.c 1 rfl
  have KR1f1 : w1.frozen? ⟨w.heap.size + 1 + 1 + 1, 1, none⟩ = false := KR1.out.f 1 (by simp)
  have KR1c2 : w1.cell? ⟨w.heap.size + 1 + 1 + 1, 2, none⟩ = some (.int .i64 0) := KR1.out.c 2 rfl
  have KR1f2 : w1.frozen? ⟨w.heap.size + 1 + 1 + 1, 2, none⟩ = false := KR1.out.f 2 (by simp)
  have KS1c0 : w1.cell? ⟨w.heap.size + 1 + 1 + 1 + 1, 0, none⟩ = some (.int .i64 c) := KS1.out.c 0 rfl
  have KS1f0 : w1.frozen? ⟨w.heap.size + 1 + 1 + 1 + 1, 0, none⟩ = false := KS1.out.f 0 (by simp)
  have KS1c1 : w1.cell? ⟨w.heap.size + 1 + 1 + 1 + 1, 1, none⟩ = some (.int .i64 s) := KS1.out.c 1 rfl
  have KS1f1 : w1.frozen? ⟨w.heap.size + 1 + 1 + 1 + 1, 1, none⟩ = false := KS1.out.f 1 (by simp)
  have KS1c2 : w1.cell? ⟨w.heap.size + 1 + 1 + 1 + 1, 2, none⟩ = some (.int .i64 m) := KS1.out.c 2 rfl
  have KS1f2 : w1.frozen? ⟨w.heap.size + 1 + 1 + 1 + 1, 2, none⟩ = false := KS1.out.f 2 (by simp)
  have KS1c3 : w1.cell? ⟨w.heap.size + 1 + 1 + 1 + 1, 3, none⟩ = some (.int .i64 o) := KS1.out.c 3 rfl
  have KS1f3 : w1.frozen? ⟨w.heap.size + 1 + 1 + 1 + 1, 3, none⟩ = false := KS1.out.f 3 (by simp)
  have KS1c4 : w1.cell? ⟨w.heap.size + 1 + 1 + 1 + 1, 4, none⟩ = some (.int .i64 k) := KS1.out.c 4 rfl
  have KS1f4 : w1.frozen? ⟨w.heap.size + 1 + 1 + 1 + 1, 4, none⟩ = false := KS1.out.f 4 (by simp)
  have KS1c5 : w1.cell? ⟨w.heap.size + 1 + 1 + 1 + 1, 5, none⟩ = some (.bool false) := KS1.out.c 5 rfl
  have KS1f5 : w1.frozen? ⟨w.heap.size + 1 + 1 + 1 + 1, 5, none⟩ = false := KS1.out.f 5 (by simp)
  have KS1c6 : w1.cell? ⟨w.heap.size + 1 + 1 + 1 + 1, 6, none⟩ = some (.bool false) := KS1.out.c 6 rfl
  have KS1f6 : w1.frozen? ⟨w.heap.size + 1 + 1 + 1 + 1, 6, none⟩ = false := KS1.out.f 6 (by simp)
  have KH1c0 : w1.cell? ⟨w.heap.size + 1, 0, none⟩ = some (.int .i64 x) := KH1.out.c 0 rfl
  have KH1c1 : w1.cell? ⟨w.heap.size + 1, 1, none⟩ = some (.int .i64 y) := KH1.out.c 1 rfl
  have KH1c2 : w1.cell? ⟨w.heap.size + 1, 2, none⟩ = some (.int .i64 z) := KH1.out.c 2 rfl
  go_wp2
  exact bodyPost_ret (v := .tuple #[.agg zj, .agg zh, .int .i64 28]) (by simp [results, Try.results12, go_sem, KJ1c0, KJ1c1, KJ1c2, KJ1c3, KJ1c4, KJ1c5, KJ1c6, KR1c0, KR1c1, KR1c2, lt1, lt2, lt3]) rfl (RecvPost.mk (by repeat (first | with_reducible exact HB1.out | with_reducible exact Below.refl _ _ | ((with_reducible refine Below.setCell ?_ ?_ _); rotate_left; focus (first | (simp; done) | (simp; omega) | omega)) | ((with_reducible refine Below.alloc ?_ ?_ _); rotate_left; focus (first | (simp; done) | (simp; omega) | omega)) | with_reducible refine Below.trans ?_ (below_drewN' _ _ _) | with_reducible refine Below.trans ?_ (below_drew _ _))))
set_option maxRecDepth 100000 in
set_option maxHeartbeats 8000000 in
theorem recv_hub (c s m o k : Int) (x y z : Int) (w : World) (hv : vld s m o k false = true) (hx : (x == 1) = false) (hx3 : (x == 3) = false)  : Calls Try.prog 12 #[.agg (jc c s m o k true false), .agg (hc3 x y z)] w (RecvPost zj zh 28 w) := by
  have HV := Lib.hid hv
  have KH := Lib.hid ((((Cs.new (w.alloc (.cells (jc c s m o k true false) 23)) (w.heap.size + 1) (hc3 x y z) 25 (by simp)).alloc (.cells zj 23)).alloc (.cells zh 25)).alloc (.cells (jc c s m o k true false) 48))
  have KJ := Lib.hid (((Cs.new ((w.alloc (.cells (jc c s m o k true false) 23)).alloc (.cells (hc3 x y z) 25)) (w.heap.size + 1 + 1) zj 23 (by simp)).alloc (.cells zh 25)).alloc (.cells (jc c s m o k true false) 48))
  have KR := Lib.hid ((Cs.new (((w.alloc (.cells (jc c s m o k true false) 23)).alloc (.cells (hc3 x y z) 25)).alloc (.cells zj 23)) (w.heap.size + 1 + 1 + 1) zh 25 (by simp)).alloc (.cells (jc c s m o k true false) 48))
  have KS := Lib.hid (Cs.new ((((w.alloc (.cells (jc c s m o k true false) 23)).alloc (.cells (hc3 x y z) 25)).alloc (.cells zj 23)).alloc (.cells zh 25)) (w.heap.size + 1 + 1 + 1 + 1) (jc c s m o k true false) 48 (by simp))
  have HB0 := Lib.hid (show Below w.heap.size w (((((w.alloc (.cells (jc c s m o k true false) 23)).alloc (.cells (hc3 x y z) 25)).alloc (.cells zj 23)).alloc (.cells zh 25)).alloc (.cells (jc c s m o k true false) 48)) from (by repeat (first | with_reducible exact Below.refl _ _ | with_reducible exact Below.refl _ _ | ((with_reducible refine Below.setCell ?_ ?_ _); rotate_left; focus (first | (simp; done) | (simp; omega) | omega)) | ((with_reducible refine Below.alloc ?_ ?_ _); rotate_left; focus (first | (simp; done) | (simp; omega) | omega)) | with_reducible refine Below.trans ?_ (below_drewN' _ _ _) | with_reducible refine Below.trans ?_ (below_drew _ _))))
  clear hv
  go_enter Try.func12, Try.ntmps12
  go_wp2_with fail
  refine (isValid_any (w.heap.size + 1 + 1 + 1 + 1) c s m o k true false _ KS.out).mono ?_
  rintro e w1 ⟨rfl, b1⟩
  rw [HV.out]
  have KH1 := Lib.hid (KH.out.step b1)
  have KJ1 := Lib.hid (KJ.out.step b1)
  have KR1 := Lib.hid (KR.out.step b1)
  have KS1 := Lib.hid (KS.out.step b1)
  have HB1 := Lib.hid (HB0.out.trans (b1.mono (by simp; omega)))
  clear b1 KH KJ KR KS HB0
  have lt1 : w.heap.size + 1 < w1.heap.size := KH1.out.2.2
  have lt2 : w.heap.size + 1 + 1 < w1.heap.size := KJ1.out.2.2
  have lt3 : w.heap.size + 1 + 1 + 1 < w1.heap.size := KR1.out.2.2
  have lt4 : w.heap.size + 1 + 1 + 1 + 1 < w1.heap.size := KS1.out.2.2
  have KJ1c0 : w1.cell? ⟨w.heap.size + 1 + 1, 0, none⟩ = some (.int .i64 0) := KJ1.out.c 0 rfl
  have KJ1f0 : w1.frozen? ⟨w.heap.size + 1 + 1, 0, none⟩ = false := KJ1.out.f 0 (by simp)
  have KJ1c1 : w1.cell? ⟨w.heap.size + 1 + 1, 1, none⟩ = some (.int .i64 0) := KJ1.out.c 1 rfl
  have KJ1f1 : w1.frozen? ⟨w.heap.size + 1 + 1, 1, none⟩ = false := KJ1.out.f 1 (by simp)
  have KJ1c2 : w1.cell? ⟨w.heap.size + 1 + 1, 2, none⟩ = some (.int .i64 0) := KJ1.out.c 2 rfl
  have KJ1f2 : w1.frozen? ⟨w.heap.size + 1 + 1, 2, none⟩ = false := KJ1.out.f 2 (by simp)
  have KJ1c3 : w1.cell? ⟨w.heap.size + 1 + 1, 3, none⟩ = some (.int .i64 0) := KJ1.out.c 3 rfl
  have KJ1f3 : w1.frozen? ⟨w.heap.size + 1 + 1, 3, none⟩ = false := KJ1.out.f 3 (by simp)
  have KJ1c4 : w1.cell? ⟨w.heap.size + 1 + 1, 4, none⟩ = some (.int .i64 0) := KJ1.out.c 4 rfl
  have KJ1f4 : w1.frozen? ⟨w.heap.size + 1 + 1, 4, none⟩ = false := KJ1.out.f 4 (by simp)
  have KJ1c5 : w1.cell? ⟨w.heap.size + 1 + 1, 5, none⟩ = some (.bool false) := KJ1.out.c 5 rfl
  have KJ1f5 : w1.frozen? ⟨w.heap.size + 1 + 1, 5, none⟩ = false := KJ1.out.f 5 (by simp)
  have KJ1c6 : w1.cell? ⟨w.heap.size + 1 + 1, 6, none⟩ = some (.bool false) := KJ1.out.c 6 rfl
  have KJ1f6 : w1.frozen? ⟨w.heap.size + 1 + 1, 6, none⟩ = false := KJ1.out.f 6 (by simp)
  have KR1c0 : w1.cell? ⟨w.heap.size + 1 + 1 + 1, 0, none⟩ = some (.int .i64 0) := KR1.out.c 0 rfl
  have KR1f0 : w1.frozen? ⟨w.heap.size + 1 + 1 + 1, 0, none⟩ = false := KR1.out.f 0 (by simp)
  have KR1c1 : w1.cell? ⟨w.heap.size + 1 + 1 + 1, 1, none⟩ = some (.int .i64 0) := KR1.out.c 1 rfl
  have KR1f1 : w1.frozen? ⟨w.heap.size + 1 + 1 + 1, 1, none⟩ = false := KR1.out.f 1 (by simp)
  have KR1c2 : w1.cell? ⟨w.heap.size + 1 + 1 + 1, 2, none⟩ = some (.int .i64 0) := KR1.out.c 2 rfl
  have KR1f2 : w1.frozen? ⟨w.heap.size + 1 + 1 + 1, 2, none⟩ = false := KR1.out.f 2 (by simp)
  have KS1c0 : w1.cell? ⟨w.heap.size + 1 + 1 + 1 + 1, 0, none⟩ = some (.int .i64 c) := KS1.out.c 0 rfl
  have KS1f0 : w1.frozen? ⟨w.heap.size + 1 + 1 + 1 + 1, 0, none⟩ = false := KS1.out.f 0 (by simp)
  have KS1c1 : w1.cell? ⟨w.heap.size + 1 + 1 + 1 + 1, 1, none⟩ = some (.int .i64 s) := KS1.out.c 1 rfl
  have KS1f1 : w1.frozen? ⟨w.heap.size + 1 + 1 + 1 + 1, 1, none⟩ = false := KS1.out.f 1 (by simp)
  have KS1c2 : w1.cell? ⟨w.heap.size + 1 + 1 + 1 + 1, 2, none⟩ = some (.int .i64 m) := KS1.out.c 2 rfl
  have KS1f2 : w1.frozen? ⟨w.heap.size + 1 + 1 + 1 + 1, 2, none⟩ = false := KS1.out.f 2 (by simp)
  have KS1c3 : w1.cell? ⟨w.heap.size + 1 + 1 + 1 + 1, 3, none⟩ = some (.int .i64 o) := KS1.out.c 3 rfl
  have KS1f3 : w1.frozen? ⟨w.heap.size + 1 + 1 + 1 + 1, 3, none⟩ = false := KS1.out.f 3 (by simp)
  have KS1c4 : w1.cell? ⟨w.heap.size + 1 + 1 + 1 + 1, 4, none⟩ = some (.int .i64 k) := KS1.out.c 4 rfl
  have KS1f4 : w1.frozen? ⟨w.heap.size + 1 + 1 + 1 + 1, 4, none⟩ = false := KS1.out.f 4 (by simp)
  have KS1c5 : w1.cell? ⟨w.heap.size + 1 + 1 + 1 + 1, 5, none⟩ = some (.bool true) := KS1.out.c 5 rfl
  have KS1f5 : w1.frozen? ⟨w.heap.size + 1 + 1 + 1 + 1, 5, none⟩ = false := KS1.out.f 5 (by simp)
  have KS1c6 : w1.cell? ⟨w.heap.size + 1 + 1 + 1 + 1, 6, none⟩ = some (.bool false) := KS1.out.c 6 rfl
  have KS1f6 : w1.frozen? ⟨w.heap.size + 1 + 1 + 1 + 1, 6, none⟩ = false := KS1.out.f 6 (by simp)
  have KH1c0 : w1.cell? ⟨w.heap.size + 1, 0, none⟩ = some (.int .i64 x) := KH1.out.c 0 rfl
  have KH1c1 : w1.cell? ⟨w.heap.size + 1, 1, none⟩ = some (.int .i64 y) := KH1.out.c 1 rfl
  have KH1c2 : w1.cell? ⟨w.heap.size + 1, 2, none⟩ = some (.int .i64 z) := KH1.out.c 2 rfl
  go_wp2
  exact bodyPost_ret (v := .tuple #[.agg zj, .agg zh, .int .i64 28]) (by simp [results, Try.results12, go_sem, KJ1c0, KJ1c1, KJ1c2, KJ1c3, KJ1c4, KJ1c5, KJ1c6, KR1c0, KR1c1, KR1c2, lt1, lt2, lt3]) rfl (RecvPost.mk (by repeat (first | with_reducible exact HB1.out | with_reducible exact Below.refl _ _ | ((with_reducible refine Below.setCell ?_ ?_ _); rotate_left; focus (first | (simp; done) | (simp; omega) | omega)) | ((with_reducible refine Below.alloc ?_ ?_ _); rotate_left; focus (first | (simp; done) | (simp; omega) | omega)) | with_reducible refine Below.trans ?_ (below_drewN' _ _ _) | with_reducible refine Below.trans ?_ (below_drew _ _))))
set_option maxRecDepth 100000 in
set_option maxHeartbeats 8000000 in
theorem recv_hub3 (c s m o k : Int) (y z : Int) (w : World) (hv : vld s m o k false = true) (ho : (o != 0) = false)  : Calls Try.prog 12 #[.agg (jc c s m o k true false), .agg (hc3 3 y z)] w (RecvPost zj zh 28 w) := by
  have HV := Lib.hid hv
  have KH := Lib.hid ((((Cs.new (w.alloc (.cells (jc c s m o k true false) 23)) (w.heap.size + 1) (hc3 3 y z) 25 (by simp)).alloc (.cells zj 23)).alloc (.cells zh 25)).alloc (.cells (jc c s m o k true false) 48))
  have KJ := Lib.hid (((Cs.new ((w.alloc (.cells (jc c s m o k true false) 23)).alloc (.cells (hc3 3 y z) 25)) (w.heap.size + 1 + 1) zj 23 (by simp)).alloc (.cells zh 25)).alloc (.cells (jc c s m o k true false) 48))
  have KR := Lib.hid ((Cs.new (((w.alloc (.cells (jc c s m o k true false) 23)).alloc (.cells (hc3 3 y z) 25)).alloc (.cells zj 23)) (w.heap.size + 1 + 1 + 1) zh 25 (by simp)).alloc (.cells (jc c s m o k true false) 48))
  have KS := Lib.hid (Cs.new ((((w.alloc (.cells (jc c s m o k true false) 23)).alloc (.cells (hc3 3 y z) 25)).alloc (.cells zj 23)).alloc (.cells zh 25)) (w.heap.size + 1 + 1 + 1 + 1) (jc c s m o k true false) 48 (by simp))
  have HB0 := Lib.hid (show Below w.heap.size w (((((w.alloc (.cells (jc c s m o k true false) 23)).alloc (.cells (hc3 3 y z) 25)).alloc (.cells zj 23)).alloc (.cells zh 25)).alloc (.cells (jc c s m o k true false) 48)) from (by repeat (first | with_reducible exact Below.refl _ _ | with_reducible exact Below.refl _ _ | ((with_reducible refine Below.setCell ?_ ?_ _); rotate_left; focus (first | (simp; done) | (simp; omega) | omega)) | ((with_reducible refine Below.alloc ?_ ?_ _); rotate_left; focus (first | (simp; done) | (simp; omega) | omega)) | with_reducible refine Below.trans ?_ (below_drewN' _ _ _) | with_reducible refine Below.trans ?_ (below_drew _ _))))
  clear hv
  go_enter Try.func12, Try.ntmps12
  go_wp2_with fail
  refine (isValid_any (w.heap.size + 1 + 1 + 1 + 1) c s m o k true false _ KS.out).mono ?_
  rintro e w1 ⟨rfl, b1⟩
  rw [HV.out]
  have KH1 := Lib.hid (KH.out.step b1)
  have KJ1 := Lib.hid (KJ.out.step b1)
  have KR1 := Lib.hid (KR.out.step b1)
  have KS1 := Lib.hid (KS.out.step b1)
  have HB1 := Lib.hid (HB0.out.trans (b1.mono (by simp; omega)))
  clear b1 KH KJ KR KS HB0
  have lt1 : w.heap.size + 1 < w1.heap.size := KH1.out.2.2
  have lt2 : w.heap.size + 1 + 1 < w1.heap.size := KJ1.out.2.2
  have lt3 : w.heap.size + 1 + 1 + 1 < w1.heap.size := KR1.out.2.2
  have lt4 : w.heap.size + 1 + 1 + 1 + 1 < w1.heap.size := KS1.out.2.2
  have KJ1c0 : w1.cell? ⟨w.heap.size + 1 + 1, 0, none⟩ = some (.int .i64 0) := KJ1.out.c 0 rfl
  have KJ1f0 : w1.frozen? ⟨w.heap.size + 1 + 1, 0, none⟩ = false := KJ1.out.f 0 (by simp)
  have KJ1c1 : w1.cell? ⟨w.heap.size + 1 + 1, 1, none⟩ = some (.int .i64 0) := KJ1.out.c 1 rfl
  have KJ1f1 : w1.frozen? ⟨w.heap.size + 1 + 1, 1, none⟩ = false := KJ1.out.f 1 (by simp)
  have KJ1c2 : w1.cell? ⟨w.heap.size + 1 + 1, 2, none⟩ = some (.int .i64 0) := KJ1.out.c 2 rfl
  have KJ1f2 : w1.frozen? ⟨w.heap.size + 1 + 1, 2, none⟩ = false := KJ1.out.f 2 (by simp)
  have KJ1c3 : w1.cell? ⟨w.heap.size + 1 + 1, 3, none⟩ = some (.int .i64 0) := KJ1.out.c 3 rfl
  have KJ1f3 : w1.frozen? ⟨w.heap.size + 1 + 1, 3, none⟩ = false := KJ1.out.f 3 (by simp)
  have KJ1c4 : w1.cell? ⟨w.heap.size + 1 + 1, 4, none⟩ = some (.int .i64 0) := KJ1.out.c 4 rfl
  have KJ1f4 : w1.frozen? ⟨w.heap.size + 1 + 1, 4, none⟩ = false := KJ1.out.f 4 (by simp)
  have KJ1c5 : w1.cell? ⟨w.heap.size + 1 + 1, 5, none⟩ = some (.bool false) := KJ1.out.c 5 rfl
  have KJ1f5 : w1.frozen? ⟨w.heap.size + 1 + 1, 5, none⟩ = false := KJ1.out.f 5 (by simp)
  have KJ1c6 : w1.cell? ⟨w.heap.size + 1 + 1, 6, none⟩ = some (.bool false) := KJ1.out.c 6 rfl
  have KJ1f6 : w1.frozen? ⟨w.heap.size + 1 + 1, 6, none⟩ = false := KJ1.out.f 6 (by simp)
  have KR1c0 : w1.cell? ⟨w.heap.size + 1 + 1 + 1, 0, none⟩ = some (.int .i64 0) := KR1.out.c 0 rfl
  have KR1f0 : w1.frozen? ⟨w.heap.size + 1 + 1 + 1, 0, none⟩ = false := KR1.out.f 0 (by simp)
  have KR1c1 : w1.cell? ⟨w.heap.size + 1 + 1 + 1, 1, none⟩ = some (.int .i64 0) := KR1.out.c 1 rfl
  have KR1f1 : w1.frozen? ⟨w.heap.size + 1 + 1 + 1, 1, none⟩ = false := KR1.out.f 1 (by simp)
  have KR1c2 : w1.cell? ⟨w.heap.size + 1 + 1 + 1, 2, none⟩ = some (.int .i64 0) := KR1.out.c 2 rfl
  have KR1f2 : w1.frozen? ⟨w.heap.size + 1 + 1 + 1, 2, none⟩ = false := KR1.out.f 2 (by simp)
  have KS1c0 : w1.cell? ⟨w.heap.size + 1 + 1 + 1 + 1, 0, none⟩ = some (.int .i64 c) := KS1.out.c 0 rfl
  have KS1f0 : w1.frozen? ⟨w.heap.size + 1 + 1 + 1 + 1, 0, none⟩ = false := KS1.out.f 0 (by simp)
  have KS1c1 : w1.cell? ⟨w.heap.size + 1 + 1 + 1 + 1, 1, none⟩ = some (.int .i64 s) := KS1.out.c 1 rfl
  have KS1f1 : w1.frozen? ⟨w.heap.size + 1 + 1 + 1 + 1, 1, none⟩ = false := KS1.out.f 1 (by simp)
  have KS1c2 : w1.cell? ⟨w.heap.size + 1 + 1 + 1 + 1, 2, none⟩ = some (.int .i64 m) := KS1.out.c 2 rfl
  have KS1f2 : w1.frozen? ⟨w.heap.size + 1 + 1 + 1 + 1, 2, none⟩ = false := KS1.out.f 2 (by simp)
  have KS1c3 : w1.cell? ⟨w.heap.size + 1 + 1 + 1 + 1, 3, none⟩ = some (.int .i64 o) := KS1.out.c 3 rfl
  have KS1f3 : w1.frozen? ⟨w.heap.size + 1 + 1 + 1 + 1, 3, none⟩ = false := KS1.out.f 3 (by simp)
  have KS1c4 : w1.cell? ⟨w.heap.size + 1 + 1 + 1 + 1, 4, none⟩ = some (.int .i64 k) := KS1.out.c 4 rfl
  have KS1f4 : w1.frozen? ⟨w.heap.size + 1 + 1 + 1 + 1, 4, none⟩ = false := KS1.out.f 4 (by simp)
  have KS1c5 : w1.cell? ⟨w.heap.size + 1 + 1 + 1 + 1, 5, none⟩ = some (.bool true) := KS1.out.c 5 rfl
  have KS1f5 : w1.frozen? ⟨w.heap.size + 1 + 1 + 1 + 1, 5, none⟩ = false := KS1.out.f 5 (by simp)
  have KS1c6 : w1.cell? ⟨w.heap.size + 1 + 1 + 1 + 1, 6, none⟩ = some (.bool false) := KS1.out.c 6 rfl
  have KS1f6 : w1.frozen? ⟨w.heap.size + 1 + 1 + 1 + 1, 6, none⟩ = false := KS1.out.f 6 (by simp)
  have KH1c0 : w1.cell? ⟨w.heap.size + 1, 0, none⟩ = some (.int .i64 3) := KH1.out.c 0 rfl
  have KH1c1 : w1.cell? ⟨w.heap.size + 1, 1, none⟩ = some (.int .i64 y) := KH1.out.c 1 rfl
  have KH1c2 : w1.cell? ⟨w.heap.size + 1, 2, none⟩ = some (.int .i64 z) := KH1.out.c 2 rfl
  go_wp2
  exact bodyPost_ret (v := .tuple #[.agg zj, .agg zh, .int .i64 28]) (by simp [results, Try.results12, go_sem, KJ1c0, KJ1c1, KJ1c2, KJ1c3, KJ1c4, KJ1c5, KJ1c6, KR1c0, KR1c1, KR1c2, lt1, lt2, lt3]) rfl (RecvPost.mk (by repeat (first | with_reducible exact HB1.out | with_reducible exact Below.refl _ _ | ((with_reducible refine Below.setCell ?_ ?_ _); rotate_left; focus (first | (simp; done) | (simp; omega) | omega)) | ((with_reducible refine Below.alloc ?_ ?_ _); rotate_left; focus (first | (simp; done) | (simp; omega) | omega)) | with_reducible refine Below.trans ?_ (below_drewN' _ _ _) | with_reducible refine Below.trans ?_ (below_drew _ _))))
end Go.Proofs.Ytoggmladiakblaa
