/- 'Device', 'Hub', the reference's, and what its 'Receive' calls. -/
import Derived.Test.YtoggmladiakblaaJg
namespace Go.Proofs.Ytoggmladiakblaa
open Go.RowKit

set_option maxRecDepth 100000 in
set_option maxHeartbeats 4000000 in
theorem device_any (a b : Int) (w : World) : Calls Try.prog 10 #[.int .i64 a, .int .i64 b] w fun e w' => e = .returned (.tuple #[.agg (jc a b (pw 7 b) 0 0 false false), .agg (hc3 1 (pw 7 b) 0)]) ∧ Below w.heap.size w w' := by
  go_enter Try.func10, Try.ntmps10
  go_wp2_with fail
  refine (public_any b _).mono ?_
  rintro e w' ⟨rfl, rfl⟩
  go_wp2_with fail
  go_region
  all_goals go_wp2
  all_goals exact bodyPost_ret (v := .tuple #[.agg (jc a b (pw 7 b) 0 0 false false), .agg (hc3 1 (pw 7 b) 0)]) (by simp [results, Try.results10, go_sem]) rfl ⟨rfl, (by repeat (first | with_reducible exact Below.refl _ _ | with_reducible exact Below.refl _ _ | ((with_reducible refine Below.setCell ?_ ?_ _); rotate_left; focus (first | (simp; done) | (simp; omega) | omega)) | ((with_reducible refine Below.alloc ?_ ?_ _); rotate_left; focus (first | (simp; done) | (simp; omega) | omega)) | with_reducible refine Below.trans ?_ (below_drewN' _ _ _) | with_reducible refine Below.trans ?_ (below_drew _ _)))⟩
set_option maxRecDepth 100000 in
set_option maxHeartbeats 4000000 in
theorem rdevice_any (a b : Int) (w : World) : Calls Try.prog 11 #[.int .i64 a, .int .i64 b] w fun e w' => e = .returned (.tuple #[.agg (jc a b (pw 7 b) 0 0 false false), .agg (hc3 1 (pw 7 b) 0)]) ∧ Below w.heap.size w w' := by
  go_enter Try.func11, Try.ntmps11
  go_wp2_with fail
  refine (rpublic_any b _).mono ?_
  rintro e w' ⟨rfl, rfl⟩
  go_wp2_with fail
  go_region
  all_goals go_wp2
  all_goals exact bodyPost_ret (v := .tuple #[.agg (jc a b (pw 7 b) 0 0 false false), .agg (hc3 1 (pw 7 b) 0)]) (by simp [results, Try.results11, go_sem]) rfl ⟨rfl, (by repeat (first | with_reducible exact Below.refl _ _ | with_reducible exact Below.refl _ _ | ((with_reducible refine Below.setCell ?_ ?_ _); rotate_left; focus (first | (simp; done) | (simp; omega) | omega)) | ((with_reducible refine Below.alloc ?_ ?_ _); rotate_left; focus (first | (simp; done) | (simp; omega) | omega)) | with_reducible refine Below.trans ?_ (below_drewN' _ _ _) | with_reducible refine Below.trans ?_ (below_drew _ _)))⟩
set_option maxRecDepth 100000 in
set_option maxHeartbeats 4000000 in
theorem hub_any (a b : Int) (w : World) : Calls Try.prog 14 #[.int .i64 a, .int .i64 b] w fun e w' => e = .returned (.agg (jc a b (pw 7 b) 0 0 true false)) ∧ Below w.heap.size w w' := by
  go_enter Try.func14, Try.ntmps14
  go_wp2_with fail
  refine (public_any b _).mono ?_
  rintro e w' ⟨rfl, rfl⟩
  go_wp2
  exact bodyPost_ret (v := .agg (jc a b (pw 7 b) 0 0 true false)) (by simp [results, Try.results14, go_sem]) rfl ⟨rfl, (by repeat (first | with_reducible exact Below.refl _ _ | with_reducible exact Below.refl _ _ | ((with_reducible refine Below.setCell ?_ ?_ _); rotate_left; focus (first | (simp; done) | (simp; omega) | omega)) | ((with_reducible refine Below.alloc ?_ ?_ _); rotate_left; focus (first | (simp; done) | (simp; omega) | omega)) | with_reducible refine Below.trans ?_ (below_drewN' _ _ _) | with_reducible refine Below.trans ?_ (below_drew _ _)))⟩
set_option maxRecDepth 100000 in
set_option maxHeartbeats 4000000 in
theorem rhub_any (a b : Int) (w : World) : Calls Try.prog 15 #[.int .i64 a, .int .i64 b] w fun e w' => e = .returned (.agg (jc a b (pw 7 b) 0 0 true false)) ∧ Below w.heap.size w w' := by
  go_enter Try.func15, Try.ntmps15
  go_wp2_with fail
  refine (rpublic_any b _).mono ?_
  rintro e w' ⟨rfl, rfl⟩
  go_wp2
  exact bodyPost_ret (v := .agg (jc a b (pw 7 b) 0 0 true false)) (by simp [results, Try.results15, go_sem]) rfl ⟨rfl, (by repeat (first | with_reducible exact Below.refl _ _ | with_reducible exact Below.refl _ _ | ((with_reducible refine Below.setCell ?_ ?_ _); rotate_left; focus (first | (simp; done) | (simp; omega) | omega)) | ((with_reducible refine Below.alloc ?_ ?_ _); rotate_left; focus (first | (simp; done) | (simp; omega) | omega)) | with_reducible refine Below.trans ?_ (below_drewN' _ _ _) | with_reducible refine Below.trans ?_ (below_drew _ _)))⟩
def expB (x o : Int) (h d : Bool) : Bool := !d && (if h then (x == 1 || (x == 3 && o != 0)) else x == 2)
set_option maxRecDepth 100000 in
set_option maxHeartbeats 4000000 in
theorem expects_any (c s m o k : Int) (h d : Bool) (x : Int) (w : World) : Calls Try.prog 28 #[.agg (jc c s m o k h d), .int .i64 x] w fun e w' => e = .returned (.bool (expB x o h d)) ∧ Below w.heap.size w w' := by
  cases d
  · cases h
    · have he : expB x o false false = (x == 2) := rfl
      rw [he]
      go_enter Try.func28, Try.ntmps28
      go_wp2
      go_ret
      exact ⟨rfl, al _ _⟩
    · have he : expB x o true false = (x == 1 || (x == 3 && o != 0)) := rfl
      rw [he]
      cases h1 : (x == 1)
      · cases h3 : (x == 3)
        · go_enter Try.func28, Try.ntmps28
          go_wp2
          go_ret
          exact ⟨rfl, al _ _⟩
        · go_enter Try.func28, Try.ntmps28
          go_wp2
          go_ret
          exact ⟨ret_bool (by simp), al _ _⟩
      · go_enter Try.func28, Try.ntmps28
        go_wp2
        go_ret
        exact ⟨ret_bool (by simp), al _ _⟩
  · have he : expB x o h true = false := rfl
    rw [he]
    go_enter Try.func28, Try.ntmps28
    go_wp2
    go_ret
    exact ⟨rfl, al _ _⟩
/-- The numbers of a proof. -/
def nums (s m o : Int) (h : Bool) (mark : Int) : List Int := [mark, if h then o else m, if h then m else o, pw o s]
set_option maxRecDepth 100000 in
set_option maxHeartbeats 4000000 in
theorem numbers_any (c s m o k : Int) (h d : Bool) (u mark : Int) (w : World) : Calls Try.prog 19 #[.agg (jc c s m o k h d), .int .i64 u, .int .i64 mark] w fun e w' => ∃ v, e = .returned v ∧ IntsAt w' v (nums s m u h mark) ∧ Below w.heap.size w w' := by
  have HC := Lib.hid (Cs.new w w.heap.size (jc c s m o k h d) 23 rfl)
  have HB := Lib.hid (al w (.cells (jc c s m o k h d) 23))
  cases h
  · go_enter Try.func19, Try.ntmps19
    go_wp2_with fail
    generalize w.alloc (.cells (jc c s m o k false d) 23) = w1 at *
    have hS : (fun w' : World => Below w1.heap.size w1 w' ∧ w'.cell? ⟨w.heap.size, 0, none⟩ = some (.int .i64 c) ∧ w'.cell? ⟨w.heap.size, 1, none⟩ = some (.int .i64 s) ∧ w'.cell? ⟨w.heap.size, 2, none⟩ = some (.int .i64 m) ∧ w'.cell? ⟨w.heap.size, 3, none⟩ = some (.int .i64 o) ∧ w'.cell? ⟨w.heap.size, 4, none⟩ = some (.int .i64 k) ∧ w'.cell? ⟨w.heap.size, 5, none⟩ = some (.bool false) ∧ w'.cell? ⟨w.heap.size, 6, none⟩ = some (.bool d)) w1.drew := ⟨below_drew _ _, HC.out.c 0 rfl, HC.out.c 1 rfl, HC.out.c 2 rfl, HC.out.c 3 rfl, HC.out.c 4 rfl, HC.out.c 5 rfl, HC.out.c 6 rfl⟩
    go_region_held3 (fun w' => Below w1.heap.size w1 w' ∧ w'.cell? ⟨w.heap.size, 0, none⟩ = some (.int .i64 c) ∧ w'.cell? ⟨w.heap.size, 1, none⟩ = some (.int .i64 s) ∧ w'.cell? ⟨w.heap.size, 2, none⟩ = some (.int .i64 m) ∧ w'.cell? ⟨w.heap.size, 3, none⟩ = some (.int .i64 o) ∧ w'.cell? ⟨w.heap.size, 4, none⟩ = some (.int .i64 k) ∧ w'.cell? ⟨w.heap.size, 5, none⟩ = some (.bool false) ∧ w'.cell? ⟨w.heap.size, 6, none⟩ = some (.bool d))
      (first | (go_split_ands; refine ⟨?_, ?_, ?_, ?_, ?_, ?_, ?_, ?_⟩ <;> first | assumption | exact keep1 hbq (by assumption) | exact keep2 hbq (by assumption) | exact keep1 (al _ _) (by assumption) | exact keep2 (al _ _) (by assumption)) | go_keep)
      (first | (go_at_call 30; refine (rkey_any c s m o k false d u _).mono ?_; rintro e w' ⟨rfl, hbq⟩))
    have HL := Lib.hid (ints_lit w' [mark, m, u, pw u s] #[.int .i64 mark, .int .i64 m, .int .i64 u, .int .i64 (pw u s)] 3 rfl (by simp) 4 rfl _ rfl)
    have hS9 : Below w1.heap.size w1 (w'.alloc (.cells #[.int .i64 mark, .int .i64 m, .int .i64 u, .int .i64 (pw u s)] 3)) ∧ (w'.alloc (.cells #[.int .i64 mark, .int .i64 m, .int .i64 u, .int .i64 (pw u s)] 3)).cell? ⟨w.heap.size, 0, none⟩ = some (.int .i64 c) ∧ (w'.alloc (.cells #[.int .i64 mark, .int .i64 m, .int .i64 u, .int .i64 (pw u s)] 3)).cell? ⟨w.heap.size, 1, none⟩ = some (.int .i64 s) ∧ (w'.alloc (.cells #[.int .i64 mark, .int .i64 m, .int .i64 u, .int .i64 (pw u s)] 3)).cell? ⟨w.heap.size, 2, none⟩ = some (.int .i64 m) ∧ (w'.alloc (.cells #[.int .i64 mark, .int .i64 m, .int .i64 u, .int .i64 (pw u s)] 3)).cell? ⟨w.heap.size, 3, none⟩ = some (.int .i64 o) ∧ (w'.alloc (.cells #[.int .i64 mark, .int .i64 m, .int .i64 u, .int .i64 (pw u s)] 3)).cell? ⟨w.heap.size, 4, none⟩ = some (.int .i64 k) ∧ (w'.alloc (.cells #[.int .i64 mark, .int .i64 m, .int .i64 u, .int .i64 (pw u s)] 3)).cell? ⟨w.heap.size, 5, none⟩ = some (.bool false) ∧ (w'.alloc (.cells #[.int .i64 mark, .int .i64 m, .int .i64 u, .int .i64 (pw u s)] 3)).cell? ⟨w.heap.size, 6, none⟩ = some (.bool d) := by assumption
    have HB9 := Lib.hid (HB.out.trans (hS9.1.mono HB.out.size))
    clear hS9
    have HP := Lib.hid (show IntsAt (w'.alloc (.cells #[.int .i64 mark, .int .i64 m, .int .i64 u, .int .i64 (pw u s)] 3)) (.slice (some ⟨w'.heap.size, 0, none⟩) 4 4) (nums s m u false mark) ∧ Below w.heap.size w (w'.alloc (.cells #[.int .i64 mark, .int .i64 m, .int .i64 u, .int .i64 (pw u s)] 3)) from ⟨HL.out, HB9.out⟩)
    clear HL HB9
    go_wp2
    go_ret
    exact ⟨_, rfl, HP.out⟩
  · go_enter Try.func19, Try.ntmps19
    go_wp2_with fail
    generalize w.alloc (.cells (jc c s m o k true d) 23) = w1 at *
    have hS : (fun w' : World => Below w1.heap.size w1 w' ∧ w'.cell? ⟨w.heap.size, 0, none⟩ = some (.int .i64 c) ∧ w'.cell? ⟨w.heap.size, 1, none⟩ = some (.int .i64 s) ∧ w'.cell? ⟨w.heap.size, 2, none⟩ = some (.int .i64 m) ∧ w'.cell? ⟨w.heap.size, 3, none⟩ = some (.int .i64 o) ∧ w'.cell? ⟨w.heap.size, 4, none⟩ = some (.int .i64 k) ∧ w'.cell? ⟨w.heap.size, 5, none⟩ = some (.bool true) ∧ w'.cell? ⟨w.heap.size, 6, none⟩ = some (.bool d)) w1.drew := ⟨below_drew _ _, HC.out.c 0 rfl, HC.out.c 1 rfl, HC.out.c 2 rfl, HC.out.c 3 rfl, HC.out.c 4 rfl, HC.out.c 5 rfl, HC.out.c 6 rfl⟩
    go_region_held3 (fun w' => Below w1.heap.size w1 w' ∧ w'.cell? ⟨w.heap.size, 0, none⟩ = some (.int .i64 c) ∧ w'.cell? ⟨w.heap.size, 1, none⟩ = some (.int .i64 s) ∧ w'.cell? ⟨w.heap.size, 2, none⟩ = some (.int .i64 m) ∧ w'.cell? ⟨w.heap.size, 3, none⟩ = some (.int .i64 o) ∧ w'.cell? ⟨w.heap.size, 4, none⟩ = some (.int .i64 k) ∧ w'.cell? ⟨w.heap.size, 5, none⟩ = some (.bool true) ∧ w'.cell? ⟨w.heap.size, 6, none⟩ = some (.bool d))
      (first | (go_split_ands; refine ⟨?_, ?_, ?_, ?_, ?_, ?_, ?_, ?_⟩ <;> first | assumption | exact keep1 hbq (by assumption) | exact keep2 hbq (by assumption) | exact keep1 (al _ _) (by assumption) | exact keep2 (al _ _) (by assumption)) | go_keep)
      (first | (go_at_call 30; refine (rkey_any c s m o k true d u _).mono ?_; rintro e w' ⟨rfl, hbq⟩))
    have HL := Lib.hid (ints_lit w' [mark, u, m, pw u s] #[.int .i64 mark, .int .i64 u, .int .i64 m, .int .i64 (pw u s)] 3 rfl (by simp) 4 rfl _ rfl)
    have hS9 : Below w1.heap.size w1 (w'.alloc (.cells #[.int .i64 mark, .int .i64 u, .int .i64 m, .int .i64 (pw u s)] 3)) ∧ (w'.alloc (.cells #[.int .i64 mark, .int .i64 u, .int .i64 m, .int .i64 (pw u s)] 3)).cell? ⟨w.heap.size, 0, none⟩ = some (.int .i64 c) ∧ (w'.alloc (.cells #[.int .i64 mark, .int .i64 u, .int .i64 m, .int .i64 (pw u s)] 3)).cell? ⟨w.heap.size, 1, none⟩ = some (.int .i64 s) ∧ (w'.alloc (.cells #[.int .i64 mark, .int .i64 u, .int .i64 m, .int .i64 (pw u s)] 3)).cell? ⟨w.heap.size, 2, none⟩ = some (.int .i64 m) ∧ (w'.alloc (.cells #[.int .i64 mark, .int .i64 u, .int .i64 m, .int .i64 (pw u s)] 3)).cell? ⟨w.heap.size, 3, none⟩ = some (.int .i64 o) ∧ (w'.alloc (.cells #[.int .i64 mark, .int .i64 u, .int .i64 m, .int .i64 (pw u s)] 3)).cell? ⟨w.heap.size, 4, none⟩ = some (.int .i64 k) ∧ (w'.alloc (.cells #[.int .i64 mark, .int .i64 u, .int .i64 m, .int .i64 (pw u s)] 3)).cell? ⟨w.heap.size, 5, none⟩ = some (.bool true) ∧ (w'.alloc (.cells #[.int .i64 mark, .int .i64 u, .int .i64 m, .int .i64 (pw u s)] 3)).cell? ⟨w.heap.size, 6, none⟩ = some (.bool d) := by assumption
    have HB9 := Lib.hid (HB.out.trans (hS9.1.mono HB.out.size))
    clear hS9
    have HP := Lib.hid (show IntsAt (w'.alloc (.cells #[.int .i64 mark, .int .i64 u, .int .i64 m, .int .i64 (pw u s)] 3)) (.slice (some ⟨w'.heap.size, 0, none⟩) 4 4) (nums s m u true mark) ∧ Below w.heap.size w (w'.alloc (.cells #[.int .i64 mark, .int .i64 u, .int .i64 m, .int .i64 (pw u s)] 3)) from ⟨HL.out, HB9.out⟩)
    clear HL HB9
    go_wp2
    go_ret
    exact ⟨_, rfl, HP.out⟩
set_option maxRecDepth 100000 in
set_option maxHeartbeats 4000000 in
theorem rproof_any (c s m o k : Int) (h d : Bool) (u mark : Int) (w : World) : Calls Try.prog 29 #[.agg (jc c s m o k h d), .int .i64 u, .int .i64 mark] w fun e w' => e = .returned (.int .i64 (prf c s m u h mark)) ∧ Below w.heap.size w w' := by
  have HC := Lib.hid (Cs.new w w.heap.size (jc c s m o k h d) 23 rfl)
  have HB := Lib.hid (al w (.cells (jc c s m o k h d) 23))
  have HPf := Lib.hid (show Dg (c :: ((nums s m u h mark).length : Int) :: nums s m u h mark) = prf c s m u h mark from rfl)
  go_enter Try.func29, Try.ntmps29
  go_wp2_with fail
  generalize w.alloc (.cells (jc c s m o k h d) 23) = w1 at *
  have hS : (fun w' : World => Below w1.heap.size w1 w' ∧ w'.cell? ⟨w.heap.size, 0, none⟩ = some (.int .i64 c) ∧ w'.cell? ⟨w.heap.size, 1, none⟩ = some (.int .i64 s) ∧ w'.cell? ⟨w.heap.size, 2, none⟩ = some (.int .i64 m) ∧ w'.cell? ⟨w.heap.size, 3, none⟩ = some (.int .i64 o) ∧ w'.cell? ⟨w.heap.size, 4, none⟩ = some (.int .i64 k) ∧ w'.cell? ⟨w.heap.size, 5, none⟩ = some (.bool h) ∧ w'.cell? ⟨w.heap.size, 6, none⟩ = some (.bool d)) w1.drew := ⟨below_drew _ _, HC.out.c 0 rfl, HC.out.c 1 rfl, HC.out.c 2 rfl, HC.out.c 3 rfl, HC.out.c 4 rfl, HC.out.c 5 rfl, HC.out.c 6 rfl⟩
  go_region_held3 (fun w' => Below w1.heap.size w1 w' ∧ w'.cell? ⟨w.heap.size, 0, none⟩ = some (.int .i64 c) ∧ w'.cell? ⟨w.heap.size, 1, none⟩ = some (.int .i64 s) ∧ w'.cell? ⟨w.heap.size, 2, none⟩ = some (.int .i64 m) ∧ w'.cell? ⟨w.heap.size, 3, none⟩ = some (.int .i64 o) ∧ w'.cell? ⟨w.heap.size, 4, none⟩ = some (.int .i64 k) ∧ w'.cell? ⟨w.heap.size, 5, none⟩ = some (.bool h) ∧ w'.cell? ⟨w.heap.size, 6, none⟩ = some (.bool d))
    (first | (go_split_ands; refine ⟨?_, ?_, ?_, ?_, ?_, ?_, ?_, ?_⟩ <;> first | assumption | exact keep1 hbq (by assumption) | exact keep2 hbq (by assumption) | exact keep1 (al _ _) (by assumption) | exact keep2 (al _ _) (by assumption)) | go_keep)
    (first | (go_at_call 19; refine (numbers_any c s m o k h d u mark _).mono ?_; rintro e w' ⟨v19, rfl, hv, hbq⟩; have HV := Lib.hid hv; clear hv) | (go_at_call 42; refine (rtag_any c _ (nums s m u h mark) _ HV.out (by simp [nums]) (by simp [nums])).mono ?_; rintro e w' ⟨rfl, hbq⟩; rw [HPf.out]))
  have hS9 : Below w1.heap.size w1 w' ∧ w'.cell? ⟨w.heap.size, 0, none⟩ = some (.int .i64 c) ∧ w'.cell? ⟨w.heap.size, 1, none⟩ = some (.int .i64 s) ∧ w'.cell? ⟨w.heap.size, 2, none⟩ = some (.int .i64 m) ∧ w'.cell? ⟨w.heap.size, 3, none⟩ = some (.int .i64 o) ∧ w'.cell? ⟨w.heap.size, 4, none⟩ = some (.int .i64 k) ∧ w'.cell? ⟨w.heap.size, 5, none⟩ = some (.bool h) ∧ w'.cell? ⟨w.heap.size, 6, none⟩ = some (.bool d) := by first | assumption | exact ⟨by assumption, by assumption, by assumption, by assumption, by assumption, by assumption, by assumption, by assumption⟩
  have HB9 := Lib.hid (HB.out.trans (hS9.1.mono HB.out.size))
  clear hS9
  go_wp2
  go_ret
  exact ⟨rfl, HB9.out⟩
end Go.Proofs.Ytoggmladiakblaa
