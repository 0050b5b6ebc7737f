/- Whether a side is well-formed: 'isValid', the reference's 'Valid' and 'Key'. -/
import Derived.Test.YtoggmladiakblaaJa
namespace Go.Proofs.Ytoggmladiakblaa
open Go.RowKit

def vld (s m o k : Int) (d : Bool) : Bool := (m == pw 7 s) && ((o == 0 || accB o) && (if d then (o != 0 && k == pw o s) else k == 0))
/-- The ways of a side. -/
inductive VCase (s m o k : Int) (d : Bool) : Prop
  | mine : (m != pw 7 s) = true → vld s m o k d = false → VCase s m o k d
  | bad : (m != pw 7 s) = false → (o != 0) = true → accB o = false → vld s m o k d = false → VCase s m o k d
  | noD : (m != pw 7 s) = false → (o != 0) = false → d = true → vld s m o k d = false → VCase s m o k d
  | noF : (m != pw 7 s) = false → (o != 0) = false → d = false → vld s m o k d = (k == 0) → VCase s m o k d
  | yesD : (m != pw 7 s) = false → (o != 0) = true → accB o = true → d = true → vld s m o k d = (k == pw o s) → VCase s m o k d
  | yesF : (m != pw 7 s) = false → (o != 0) = true → accB o = true → d = false → vld s m o k d = (k == 0) → VCase s m o k d
theorem vcase (s m o k : Int) (d : Bool) : VCase s m o k d := by
  by_cases h1 : m = pw 7 s
  · have e1 : (m != pw 7 s) = false := by simpa using h1
    have f1 : (m == pw 7 s) = true := by simpa using h1
    by_cases h2 : o = 0
    · have e2 : (o != 0) = false := by simpa using h2
      have f2 : (o == 0) = true := by simpa using h2
      cases d
      · exact .noF e1 e2 rfl (by unfold vld; rw [f1, f2]; simp)
      · exact .noD e1 e2 rfl (by unfold vld; rw [f1, f2, e2]; simp)
    · have e2 : (o != 0) = true := by simpa using h2
      have f2 : (o == 0) = false := by simpa using h2
      cases h3 : accB o
      · exact .bad e1 e2 h3 (by unfold vld; rw [f1, f2, h3]; rfl)
      · cases d
        · exact .yesF e1 e2 h3 rfl (by unfold vld; rw [f1, f2, h3]; simp)
        · exact .yesD e1 e2 h3 rfl (by unfold vld; rw [f1, f2, h3, e2]; simp)
  · exact .mine (by simpa using h1) (by unfold vld; rw [show (m == pw 7 s) = false by simpa using h1]; rfl)
set_option maxRecDepth 100000 in
set_option maxHeartbeats 4000000 in
theorem isValid_any (b : Nat) (c s m o k : Int) (h d : Bool) (w : World) (hc : Cs w b (jc c s m o k h d)) : Calls Try.prog 24 #[.pointer (some ⟨b, 0, none⟩)] w fun e w' => e = .returned (.bool (vld s m o k d)) ∧ Below w.heap.size w w' := by
  have HC := Lib.hid hc
  have c1 := hc.c 1 rfl
  have c2 := hc.c 2 rfl
  have c3 := hc.c 3 rfl
  have c4 := hc.c 4 rfl
  have c6 := hc.c 6 rfl
  clear hc
  rcases vcase s m o k d with ⟨h1, hv⟩ | ⟨h1, h2, h3, hv⟩ | ⟨h1, h2, rfl, hv⟩ | ⟨h1, h2, rfl, hv⟩ | ⟨h1, h2, h3, rfl, hv⟩ | ⟨h1, h2, h3, rfl, hv⟩ <;> rw [hv] <;> clear hv
  · skip
    go_enter Try.func24, Try.ntmps24
    go_wp2_with fail
    go_quiet ((first | (go_at_call 22; exact Calls.quiet_of_same (public_q _ _ _))))
    go_wp2_with fail
    go_ret
    exact ⟨rfl, below_drewN' _ _ _⟩
  · have H3 := Lib.hid h3
    go_enter Try.func24, Try.ntmps24
    go_wp2_with fail
    go_quiet ((first | (go_at_call 22; exact Calls.quiet_of_same (public_q _ _ _)) | (go_at_call 36; exact Calls.quiet_of_same (acc_q _ _ H3.out _ _))))
    go_wp2_with fail
    go_ret
    exact ⟨rfl, below_drewN' _ _ _⟩
  · skip
    go_enter Try.func24, Try.ntmps24
    go_wp2_with fail
    go_quiet ((first | (go_at_call 22; exact Calls.quiet_of_same (public_q _ _ _))))
    go_wp2_with fail
    have HB := Lib.hid (below_drewN' w.heap.size w nq)
    have hC : Cs (w.drewN nq) b (jc c s m o k h true) := HC.out.step (below_drewN' _ _ _)
    have D1 : (w.drewN nq).cell? ⟨b, 1, none⟩ = some (.int .i64 s) := c1
    have D3 : (w.drewN nq).cell? ⟨b, 3, none⟩ = some (.int .i64 o) := c3
    have D4 : (w.drewN nq).cell? ⟨b, 4, none⟩ = some (.int .i64 k) := c4
    clear c1 c2 c3 c4 c6
    generalize w.drewN nq = w1 at *
    have HC1 := Lib.hid hC
    clear hC HC
    go_quiet ((go_at_call 37; exact Calls.quiet_of (key_any b c s m o k h true _ (HC1.out.step (below_drewN' _ _ _)))))
    go_wp2
    go_ret
    exact ⟨rfl, HB.out.trans (below_drewN' _ _ _)⟩
  · skip
    go_enter Try.func24, Try.ntmps24
    go_wp2_with fail
    go_quiet ((first | (go_at_call 22; exact Calls.quiet_of_same (public_q _ _ _))))
    go_wp2_with fail
    go_ret
    exact ⟨rfl, below_drewN' _ _ _⟩
  · have H3 := Lib.hid h3
    go_enter Try.func24, Try.ntmps24
    go_wp2_with fail
    go_quiet ((first | (go_at_call 22; exact Calls.quiet_of_same (public_q _ _ _)) | (go_at_call 36; exact Calls.quiet_of_same (acc_q _ _ H3.out _ _))))
    go_wp2_with fail
    have HB := Lib.hid (below_drewN' w.heap.size w nq)
    have hC : Cs (w.drewN nq) b (jc c s m o k h true) := HC.out.step (below_drewN' _ _ _)
    have D1 : (w.drewN nq).cell? ⟨b, 1, none⟩ = some (.int .i64 s) := c1
    have D3 : (w.drewN nq).cell? ⟨b, 3, none⟩ = some (.int .i64 o) := c3
    have D4 : (w.drewN nq).cell? ⟨b, 4, none⟩ = some (.int .i64 k) := c4
    clear c1 c2 c3 c4 c6
    generalize w.drewN nq = w1 at *
    have HC1 := Lib.hid hC
    clear hC HC
    go_quiet ((go_at_call 37; exact Calls.quiet_of (key_any b c s m o k h true _ (HC1.out.step (below_drewN' _ _ _)))))
    go_wp2
    go_ret
    exact ⟨rfl, HB.out.trans (below_drewN' _ _ _)⟩
  · have H3 := Lib.hid h3
    go_enter Try.func24, Try.ntmps24
    go_wp2_with fail
    go_quiet ((first | (go_at_call 22; exact Calls.quiet_of_same (public_q _ _ _)) | (go_at_call 36; exact Calls.quiet_of_same (acc_q _ _ H3.out _ _))))
    go_wp2_with fail
    go_ret
    exact ⟨rfl, below_drewN' _ _ _⟩

theorem rkey_any (c s m o k : Int) (h d : Bool) (x : Int) (w : World) : Calls Try.prog 30 #[.agg (jc c s m o k h d), .int .i64 x] w fun e w' => e = .returned (.int .i64 (pw x s)) ∧ Below w.heap.size w w' := by
  go_enter Try.func30, Try.ntmps30
  go_wp2_with fail
  refine (rshared_any s x _).mono ?_
  rintro e w' ⟨rfl, rfl⟩
  go_wp2
  go_ret
  exact ⟨rfl, al _ _⟩
theorem rpublic_q (s : Int) (w : World) (n : Nat) : Calls Try.prog 23 #[.int .i64 s] (w.drewN n) fun e w' => e = .returned (.int .i64 (pw 7 s)) ∧ w' = w.drewN n := (rpublic_any s _).mono fun _ _ h => ⟨h.1, h.2.symm⟩
theorem racc_q (s : Int) (b : Bool) (hb : accB s = b) (w : World) (n : Nat) : Calls Try.prog 16 #[.int .i64 s] (w.drewN n) fun e w' => e = .returned (.bool b) ∧ w' = w.drewN n := (racc_any s _).mono fun _ _ h => ⟨by rw [h.1, hb], h.2.symm⟩
set_option maxRecDepth 100000 in
set_option maxHeartbeats 4000000 in
theorem rvalid_any (c s m o k : Int) (h d : Bool) (w : World) : Calls Try.prog 21 #[.agg (jc c s m o k h d)] w fun e w' => e = .returned (.bool (vld s m o k d)) ∧ Below w.heap.size w w' := by
  rcases vcase s m o k d with ⟨h1, hv⟩ | ⟨h1, h2, h3, hv⟩ | ⟨h1, h2, rfl, hv⟩ | ⟨h1, h2, rfl, hv⟩ | ⟨h1, h2, h3, rfl, hv⟩ | ⟨h1, h2, h3, rfl, hv⟩ <;> rw [hv] <;> clear hv
  · skip
    have HB0 := Lib.hid (al w (.cells (jc c s m o k h d) 23))
    have HC := Lib.hid (Cs.new w _ (jc c s m o k h d) 23 rfl)
    go_enter Try.func21, Try.ntmps21
    go_wp2_with fail
    generalize w.alloc _ = w0 at *
    have c1 := HC.out.c 1 rfl
    have c2 := HC.out.c 2 rfl
    have c3 := HC.out.c 3 rfl
    have c4 := HC.out.c 4 rfl
    have c6 := HC.out.c 6 rfl
    go_quiet ((first | (go_at_call 23; exact Calls.quiet_of_same (rpublic_q _ _ _))))
    go_wp2_with fail
    go_ret
    exact ⟨rfl, HB0.out.trans (below_drewN' _ _ _)⟩
  · have H3 := Lib.hid h3
    have HB0 := Lib.hid (al w (.cells (jc c s m o k h d) 23))
    have HC := Lib.hid (Cs.new w _ (jc c s m o k h d) 23 rfl)
    go_enter Try.func21, Try.ntmps21
    go_wp2_with fail
    generalize w.alloc _ = w0 at *
    have c1 := HC.out.c 1 rfl
    have c2 := HC.out.c 2 rfl
    have c3 := HC.out.c 3 rfl
    have c4 := HC.out.c 4 rfl
    have c6 := HC.out.c 6 rfl
    go_quiet ((first | (go_at_call 23; exact Calls.quiet_of_same (rpublic_q _ _ _)) | (go_at_call 16; exact Calls.quiet_of_same (racc_q _ _ H3.out _ _))))
    go_wp2_with fail
    go_ret
    exact ⟨rfl, HB0.out.trans (below_drewN' _ _ _)⟩
  · skip
    have HB0 := Lib.hid (al w (.cells (jc c s m o k h true) 23))
    have HC := Lib.hid (Cs.new w _ (jc c s m o k h true) 23 rfl)
    go_enter Try.func21, Try.ntmps21
    go_wp2_with fail
    generalize w.alloc _ = w0 at *
    have c1 := HC.out.c 1 rfl
    have c2 := HC.out.c 2 rfl
    have c3 := HC.out.c 3 rfl
    have c4 := HC.out.c 4 rfl
    have c6 := HC.out.c 6 rfl
    go_quiet ((first | (go_at_call 23; exact Calls.quiet_of_same (rpublic_q _ _ _))))
    go_wp2_with fail
    have HB := Lib.hid (HB0.out.trans (below_drewN' w.heap.size w0 nq))
    have hC : Cs (w0.drewN nq) w.heap.size (jc c s m o k h true) := HC.out.step (below_drewN' _ _ _)
    clear c1 c2 c3 c4 c6
    generalize w0.drewN nq = w1 at *
    have c3 := hC.c 3 rfl
    have c4 := hC.c 4 rfl
    clear hC HC
    go_quiet (fail)
    go_wp2
    go_ret
    exact ⟨rfl, HB.out.trans (below_drewN' _ _ _)⟩
  · skip
    have HB0 := Lib.hid (al w (.cells (jc c s m o k h false) 23))
    have HC := Lib.hid (Cs.new w _ (jc c s m o k h false) 23 rfl)
    go_enter Try.func21, Try.ntmps21
    go_wp2_with fail
    generalize w.alloc _ = w0 at *
    have c1 := HC.out.c 1 rfl
    have c2 := HC.out.c 2 rfl
    have c3 := HC.out.c 3 rfl
    have c4 := HC.out.c 4 rfl
    have c6 := HC.out.c 6 rfl
    go_quiet ((first | (go_at_call 23; exact Calls.quiet_of_same (rpublic_q _ _ _))))
    go_wp2_with fail
    go_ret
    exact ⟨rfl, HB0.out.trans (below_drewN' _ _ _)⟩
  · have H3 := Lib.hid h3
    have HB0 := Lib.hid (al w (.cells (jc c s m o k h true) 23))
    have HC := Lib.hid (Cs.new w _ (jc c s m o k h true) 23 rfl)
    go_enter Try.func21, Try.ntmps21
    go_wp2_with fail
    generalize w.alloc _ = w0 at *
    have c1 := HC.out.c 1 rfl
    have c2 := HC.out.c 2 rfl
    have c3 := HC.out.c 3 rfl
    have c4 := HC.out.c 4 rfl
    have c6 := HC.out.c 6 rfl
    go_quiet ((first | (go_at_call 23; exact Calls.quiet_of_same (rpublic_q _ _ _)) | (go_at_call 16; exact Calls.quiet_of_same (racc_q _ _ H3.out _ _))))
    go_wp2_with fail
    have HB := Lib.hid (HB0.out.trans (below_drewN' w.heap.size w0 nq))
    have hC : Cs (w0.drewN nq) w.heap.size (jc c s m o k h true) := HC.out.step (below_drewN' _ _ _)
    clear c1 c2 c3 c4 c6
    generalize w0.drewN nq = w1 at *
    have hS : (fun w' : World => Below w1.heap.size w1 w' ∧ w'.cell? ⟨w.heap.size, 0, none⟩ = some (.int .i64 c) ∧ w'.cell? ⟨w.heap.size, 1, none⟩ = some (.int .i64 s) ∧ w'.cell? ⟨w.heap.size, 2, none⟩ = some (.int .i64 m) ∧ w'.cell? ⟨w.heap.size, 3, none⟩ = some (.int .i64 o) ∧ w'.cell? ⟨w.heap.size, 4, none⟩ = some (.int .i64 k) ∧ w'.cell? ⟨w.heap.size, 5, none⟩ = some (.bool h) ∧ w'.cell? ⟨w.heap.size, 6, none⟩ = some (.bool true)) w1.drew := ⟨below_drew _ _, hC.c 0 rfl, hC.c 1 rfl, hC.c 2 rfl, hC.c 3 rfl, hC.c 4 rfl, hC.c 5 rfl, hC.c 6 rfl⟩
    clear hC HC
    go_region_held3 (fun w' => Below w1.heap.size w1 w' ∧ w'.cell? ⟨w.heap.size, 0, none⟩ = some (.int .i64 c) ∧ w'.cell? ⟨w.heap.size, 1, none⟩ = some (.int .i64 s) ∧ w'.cell? ⟨w.heap.size, 2, none⟩ = some (.int .i64 m) ∧ w'.cell? ⟨w.heap.size, 3, none⟩ = some (.int .i64 o) ∧ w'.cell? ⟨w.heap.size, 4, none⟩ = some (.int .i64 k) ∧ w'.cell? ⟨w.heap.size, 5, none⟩ = some (.bool h) ∧ w'.cell? ⟨w.heap.size, 6, none⟩ = some (.bool true))
      (first | (go_split_ands; refine ⟨?_, ?_, ?_, ?_, ?_, ?_, ?_, ?_⟩ <;> first | assumption | exact keep1 hbq (by assumption) | exact keep2 hbq (by assumption) | exact keep1 (al _ _) (by assumption) | exact keep2 (al _ _) (by assumption)) | go_keep)
      (first | (go_at_call 30; refine (rkey_any c s m o k h true o _).mono ?_; rintro e w' ⟨rfl, hbq⟩))
    have hS9 : Below w1.heap.size w1 w' ∧ w'.cell? ⟨w.heap.size, 0, none⟩ = some (.int .i64 c) ∧ w'.cell? ⟨w.heap.size, 1, none⟩ = some (.int .i64 s) ∧ w'.cell? ⟨w.heap.size, 2, none⟩ = some (.int .i64 m) ∧ w'.cell? ⟨w.heap.size, 3, none⟩ = some (.int .i64 o) ∧ w'.cell? ⟨w.heap.size, 4, none⟩ = some (.int .i64 k) ∧ w'.cell? ⟨w.heap.size, 5, none⟩ = some (.bool h) ∧ w'.cell? ⟨w.heap.size, 6, none⟩ = some (.bool true) := by assumption
    have HB9 := Lib.hid (HB.out.trans (hS9.1.mono HB.out.size))
    clear hS9
    go_wp2
    go_ret
    exact ⟨rfl, HB9.out⟩
  · have H3 := Lib.hid h3
    have HB0 := Lib.hid (al w (.cells (jc c s m o k h false) 23))
    have HC := Lib.hid (Cs.new w _ (jc c s m o k h false) 23 rfl)
    go_enter Try.func21, Try.ntmps21
    go_wp2_with fail
    generalize w.alloc _ = w0 at *
    have c1 := HC.out.c 1 rfl
    have c2 := HC.out.c 2 rfl
    have c3 := HC.out.c 3 rfl
    have c4 := HC.out.c 4 rfl
    have c6 := HC.out.c 6 rfl
    go_quiet ((first | (go_at_call 23; exact Calls.quiet_of_same (rpublic_q _ _ _)) | (go_at_call 16; exact Calls.quiet_of_same (racc_q _ _ H3.out _ _))))
    go_wp2_with fail
    go_ret
    exact ⟨rfl, HB0.out.trans (below_drewN' _ _ _)⟩
end Go.Proofs.Ytoggmladiakblaa
