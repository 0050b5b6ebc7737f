/- Capabilities: the small functions of the reference. -/
import Derived.Test.YtdifgdnndmikaaaKk
namespace Go.Proofs.Ytdifgdnndmikaaa
open Go.RowKit

theorem between_any (n lo hi : Int) (w : World) : Calls Try.prog 38 #[.int .i64 n, .int .i64 lo, .int .i64 hi] w fun e w' => e = .returned (.bool (inr n lo hi)) ∧ w = w' := by
  by_cases h1 : lo ≤ n <;> by_cases h2 : n ≤ hi
  all_goals
    have HR := Lib.hid (show inr n lo hi = (decide (lo ≤ n) && decide (n ≤ hi)) from rfl)
    simp only [h1, h2, decide_true, decide_false, Bool.and_self, Bool.and_false, Bool.and_true] at HR
    go_enter Try.func38, Try.ntmps38
    go_wp2
    go_ret
    exact ⟨ret_bool HR.out.symm, rfl⟩
theorem between_q (n lo hi : Int) (b : Bool) (hb : inr n lo hi = b) (w : World) : Calls Try.prog 38 #[.int .i64 n, .int .i64 lo, .int .i64 hi] w fun e w' => e = .returned (.bool b) ∧ w = w' := by
  rw [← hb]; exact between_any n lo hi w
theorem rkey_any (n : Int) (w : World) : Calls Try.prog 37 #[.int .i64 n] w fun e w' => e = .returned (.bool (inr n 0 2147483646)) ∧ w = w' := by
  go_enter Try.func37, Try.ntmps37
  go_wp2_with fail
  refine (between_any n 0 2147483646 _).mono ?_
  rintro e w' ⟨rfl, rfl⟩
  go_wp2
  go_ret
  exact ⟨rfl, rfl⟩
theorem rkey_q (n : Int) (b : Bool) (hb : inr n 0 2147483646 = b) (w : World) : Calls Try.prog 37 #[.int .i64 n] w fun e w' => e = .returned (.bool b) ∧ w = w' := by
  rw [← hb]; exact rkey_any n w
set_option maxRecDepth 100000 in
set_option maxHeartbeats 1000000 in
theorem rcaveat_any (k v : Int) (w : World) : Calls Try.prog 33 #[.agg #[.int .i64 k, .int .i64 v]] w fun e w' => e = .returned (.bool (cvB k v)) ∧ Below w.heap.size w w' := by
  cases h0 : inr k 1 5
  · have HR := Lib.hid (show cvB k v = false by unfold cvB; simp [h0])
    have H0 := Lib.hid h0; clear h0
    go_enter Try.func33, Try.ntmps33
    go_wp2_with fail
    refine (between_q k 1 5 _ H0.out _).mono ?_
    rintro e w' ⟨rfl, rfl⟩
    go_wp2
    go_ret
    exact ⟨ret_bool HR.out.symm, al _ _⟩
  · have HR := Lib.hid (show cvB k v = inr v 0 1000000000 by unfold cvB; simp [h0])
    have H0 := Lib.hid h0; clear h0
    go_enter Try.func33, Try.ntmps33
    go_wp2_with fail
    refine (between_q k 1 5 _ H0.out _).mono ?_
    rintro e w' ⟨rfl, rfl⟩
    go_wp2_with fail
    refine (between_any v 0 1000000000 _).mono ?_
    rintro e w' ⟨rfl, rfl⟩
    go_wp2
    go_ret
    exact ⟨ret_bool HR.out.symm, al _ _⟩
set_option maxRecDepth 100000 in
set_option maxHeartbeats 1000000 in
theorem rask_any (r v x t : Int) (w : World) : Calls Try.prog 48 #[.agg #[.int .i64 r, .int .i64 v, .int .i64 x, .int .i64 t]] w fun e w' => e = .returned (.bool (asB r v x t)) ∧ Below w.heap.size w w' := by
  cases h0 : inr r 0 1000000
  · have HR := Lib.hid (show asB r v x t = false by unfold asB; simp [h0])
    have H0 := Lib.hid h0; clear h0
    go_enter Try.func48, Try.ntmps48
    go_wp2_with fail
    refine (between_q r 0 1000000 _ H0.out _).mono ?_
    rintro e w' ⟨rfl, rfl⟩
    go_wp2
    go_ret
    exact ⟨ret_bool HR.out.symm, al _ _⟩
  · cases h1 : inr v 0 1000000
    · have HR := Lib.hid (show asB r v x t = false by unfold asB; simp [h0, h1])
      have H0 := Lib.hid h0; clear h0
      have H1 := Lib.hid h1; clear h1
      go_enter Try.func48, Try.ntmps48
      go_wp2_with fail
      refine (between_q r 0 1000000 _ H0.out _).mono ?_
      rintro e w' ⟨rfl, rfl⟩
      go_wp2_with fail
      refine (between_q v 0 1000000 _ H1.out _).mono ?_
      rintro e w' ⟨rfl, rfl⟩
      go_wp2
      go_ret
      exact ⟨ret_bool HR.out.symm, al _ _⟩
    · cases h2 : inr x 0 15
      · have HR := Lib.hid (show asB r v x t = false by unfold asB; simp [h0, h1, h2])
        have H0 := Lib.hid h0; clear h0
        have H1 := Lib.hid h1; clear h1
        have H2 := Lib.hid h2; clear h2
        go_enter Try.func48, Try.ntmps48
        go_wp2_with fail
        refine (between_q r 0 1000000 _ H0.out _).mono ?_
        rintro e w' ⟨rfl, rfl⟩
        go_wp2_with fail
        refine (between_q v 0 1000000 _ H1.out _).mono ?_
        rintro e w' ⟨rfl, rfl⟩
        go_wp2_with fail
        refine (between_q x 0 15 _ H2.out _).mono ?_
        rintro e w' ⟨rfl, rfl⟩
        go_wp2
        go_ret
        exact ⟨ret_bool HR.out.symm, al _ _⟩
      · have HR := Lib.hid (show asB r v x t = inr t 0 1000000000 by unfold asB; simp [h0, h1, h2])
        have H0 := Lib.hid h0; clear h0
        have H1 := Lib.hid h1; clear h1
        have H2 := Lib.hid h2; clear h2
        go_enter Try.func48, Try.ntmps48
        go_wp2_with fail
        refine (between_q r 0 1000000 _ H0.out _).mono ?_
        rintro e w' ⟨rfl, rfl⟩
        go_wp2_with fail
        refine (between_q v 0 1000000 _ H1.out _).mono ?_
        rintro e w' ⟨rfl, rfl⟩
        go_wp2_with fail
        refine (between_q x 0 15 _ H2.out _).mono ?_
        rintro e w' ⟨rfl, rfl⟩
        go_wp2_with fail
        refine (between_any t 0 1000000000 _).mono ?_
        rintro e w' ⟨rfl, rfl⟩
        go_wp2
        go_ret
        exact ⟨ret_bool HR.out.symm, al _ _⟩
set_option maxRecDepth 100000 in
set_option maxHeartbeats 2000000 in
theorem rmint_any (key id : Int) (w : World) : Calls Try.prog 14 #[.int .i64 key, .int .i64 id] w fun e w' => e = .returned (mtV key id) ∧ Below w.heap.size w w' := by
  have KR := Lib.hid (Cs.new w w.heap.size #[.int .i64 0, .slice none 0 0, .int .i64 0] 24 rfl)
  have HB0 := Lib.hid (al w (.cells #[.int .i64 0, .slice none 0 0, .int .i64 0] 24))
  cases h1 : inr key 0 2147483646
  · have HR := Lib.hid (show mtV key id = .agg #[.int .i64 0, .slice none 0 0, .int .i64 0] by unfold mtV mtB; simp [h1])
    have H1 := Lib.hid h1; clear h1
    go_enter Try.func14, Try.ntmps14
    go_wp2_with fail
    refine (rkey_q key _ H1.out _).mono ?_
    rintro e w' ⟨rfl, rfl⟩
    go_wp2
    exact bodyPost_ret (v := .agg #[.int .i64 0, .slice none 0 0, .int .i64 0]) (by simp [results, Try.results14, go_sem]) rfl ⟨by rw [HR.out], (by repeat (first | with_reducible exact Below.refl _ _ | with_reducible exact Below.refl _ _ | ((with_reducible refine Below.setCell ?_ ?_ _); rotate_left; focus (first | (simp; done) | (simp; omega) | omega)) | ((with_reducible refine Below.alloc ?_ ?_ _); rotate_left; focus (first | (simp; done) | (simp; omega) | omega)) | with_reducible refine Below.trans ?_ (below_drewN' _ _ _) | with_reducible refine Below.trans ?_ (below_drew _ _)))⟩
  · cases h2 : inr id 0 1000000
    · have HR := Lib.hid (show mtV key id = .agg #[.int .i64 0, .slice none 0 0, .int .i64 0] by unfold mtV mtB; simp [h1, h2])
      have H1 := Lib.hid h1; clear h1
      have H2 := Lib.hid h2; clear h2
      go_enter Try.func14, Try.ntmps14
      go_wp2_with fail
      refine (rkey_q key _ H1.out _).mono ?_
      rintro e w' ⟨rfl, rfl⟩
      go_wp2_with fail
      refine (between_q id 0 1000000 _ H2.out _).mono ?_
      rintro e w' ⟨rfl, rfl⟩
      go_wp2
      exact bodyPost_ret (v := .agg #[.int .i64 0, .slice none 0 0, .int .i64 0]) (by simp [results, Try.results14, go_sem]) rfl ⟨by rw [HR.out], (by repeat (first | with_reducible exact Below.refl _ _ | with_reducible exact Below.refl _ _ | ((with_reducible refine Below.setCell ?_ ?_ _); rotate_left; focus (first | (simp; done) | (simp; omega) | omega)) | ((with_reducible refine Below.alloc ?_ ?_ _); rotate_left; focus (first | (simp; done) | (simp; omega) | omega)) | with_reducible refine Below.trans ?_ (below_drewN' _ _ _) | with_reducible refine Below.trans ?_ (below_drew _ _)))⟩
    · have HR := Lib.hid (show mtV key id = .agg #[.int .i64 id, .slice none 0 0, .int .i64 (tg0 key id)] by unfold mtV mtB; simp [h1, h2])
      have H1 := Lib.hid h1; clear h1
      have H2 := Lib.hid h2; clear h2
      go_enter Try.func14, Try.ntmps14
      go_wp2_with fail
      refine (rkey_q key _ H1.out _).mono ?_
      rintro e w' ⟨rfl, rfl⟩
      go_wp2_with fail
      refine (between_q id 0 1000000 _ H2.out _).mono ?_
      rintro e w' ⟨rfl, rfl⟩
      have HI := Lib.hid (ints_lit (w.alloc (.cells #[.int .i64 0, .slice none 0 0, .int .i64 0] 24)) [id] #[.int .i64 id] 3 rfl (by simp) 1 rfl (w.heap.size + 1) (by simp))
      go_wp2_with fail
      refine (rtag_any key _ [id] _ HI.out (by simp) (by simp)).mono ?_
      rintro e w1 ⟨rfl, b1⟩
      have KR1 := Lib.hid ((KR.out.alloc (.cells #[.int .i64 id] 3)).step b1)
      have HB1 := Lib.hid (keep2 b1 (HB0.out.alloc HB0.out.size (.cells #[.int .i64 id] 3)))
      clear b1
      rw [show Dg (key :: (([id] : List Int).length : Int) :: [id]) = tg0 key id from rfl]
      have y0 := KR1.out.c 0 rfl
      have y1 := KR1.out.c 1 rfl
      have y2 := KR1.out.c 2 rfl
      have z0 := KR1.out.f 0 (by simp)
      have z1 := KR1.out.f 1 (by simp)
      have z2 := KR1.out.f 2 (by simp)
      have hz : w.heap.size < w1.heap.size := KR1.out.2.2
      go_wp2
      exact bodyPost_ret (v := .agg #[.int .i64 id, .slice none 0 0, .int .i64 (tg0 key id)]) (by simp [results, Try.results14, go_sem, y0, y1, y2]) rfl ⟨by rw [HR.out], (by repeat (first | with_reducible exact HB1.out | with_reducible exact Below.refl _ _ | ((with_reducible refine Below.setCell ?_ ?_ _); rotate_left; focus (first | (simp; done) | (simp; omega) | omega)) | ((with_reducible refine Below.alloc ?_ ?_ _); rotate_left; focus (first | (simp; done) | (simp; omega) | omega)) | with_reducible refine Below.trans ?_ (below_drewN' _ _ _) | with_reducible refine Below.trans ?_ (below_drew _ _)))⟩
theorem one_is (r v t u k x : Int) : ckE r v t u k x = if k = 1 then (if r = x then 0 else 18) else if k = 2 then (if v = x then 0 else 18) else if k = 3 then (if t < x then 20 else 0) else if k = 4 then (if x ≤ t then 20 else 0) else if x ≤ u then 19 else 0 := by
  unfold ckE unl
  simp only [beq_iff_eq, decide_eq_true_eq]
  split
  · rfl
  · split
    · rfl
    · split
      · split <;> split <;> first | rfl | omega
      · split
        · split <;> split <;> first | rfl | omega
        · split <;> split <;> first | rfl | omega
end Go.Proofs.Ytdifgdnndmikaaa
