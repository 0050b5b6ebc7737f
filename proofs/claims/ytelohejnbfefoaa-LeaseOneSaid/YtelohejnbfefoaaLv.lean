/- Law LeaseVotes: the walk. -/
import Derived.Test.YtelohejnbfefoaaLr
namespace Go.Proofs.Ytelohejnbfefoaa
open Go.RowKit

theorem voted_no {vf vh vu h f u now : Int} (hv : voB vf vh vu h f u now = false) : votedV vf vh vu h f u now = vtc vf vh vu := by unfold votedV; rw [hv]; rfl
theorem voted_yes {vf vh vu h f u now : Int} (hv : voB vf vh vu h f u now = true) : votedV vf vh vu h f u now = vtc f h (grU vh vu h u) := by unfold votedV; rw [hv]; rfl
theorem vote_no (vf vh vu h f u now : Int) (w : World) (hv : voB vf vh vu h f u now = false) : Calls Try.prog 14 #[.agg #[.int .i64 vf, .int .i64 vh, .int .i64 vu], .agg #[.int .i64 h, .int .i64 f, .int .i64 u], .int .i64 now] w fun e w' => e = .returned (.tuple #[.agg #[.int .i64 vf, .int .i64 vh, .int .i64 vu], .bool false]) ∧ Below w.heap.size w w' := by
  have h := vote_any vf vh vu h f u now w
  rw [voted_no hv, hv] at h
  exact h
theorem vote_yes (vf vh vu h f u now : Int) (w : World) (hv : voB vf vh vu h f u now = true) : Calls Try.prog 14 #[.agg #[.int .i64 vf, .int .i64 vh, .int .i64 vu], .agg #[.int .i64 h, .int .i64 f, .int .i64 u], .int .i64 now] w fun e w' => e = .returned (.tuple #[.agg #[.int .i64 f, .int .i64 h, .int .i64 (grU vh vu h u)], .bool true]) ∧ Below w.heap.size w w' := by
  have h := vote_any vf vh vu h f u now w
  rw [voted_yes hv, hv] at h
  exact h
theorem vo_facts {vf vh vu h f u now : Int} (hv : voB vf vh vu h f u now = true) : vf < f := by
  unfold voB agB at hv
  simp only [Bool.and_eq_true, decide_eq_true_iff] at hv
  exact hv.2.1.2
theorem vo_same {vh vu h f u now : Int} : voB f vh vu h f u now = false := by
  unfold voB agB
  simp
theorem gr_ge (vh vu h u : Int) : u ≤ grU vh vu h u := by
  unfold grU mxi; split
  · split <;> omega
  · omega
theorem gr_ge2 (vu h u : Int) : vu ≤ grU h vu h u := by
  unfold grU mxi; rw [if_pos rfl]; split <;> omega
set_option maxRecDepth 100000 in
set_option maxHeartbeats 8000000 in
theorem votes_no (v : Vo) (h f u now : Int) (w : World) (hv : voB v.f v.h v.u h f u now = false) :
    Calls Try.prog 4 #[.agg #[.int .i64 v.f, .int .i64 v.h, .int .i64 v.u], .agg #[.int .i64 h, .int .i64 f, .int .i64 u], .int .i64 now] w fun e w' => e = .returned (.bool true) ∧ Below w.heap.size w w' := by
  obtain ⟨vf, vh, vu⟩ := v
  have HV := Lib.hid hv
  simp only at HV
  clear hv
  have HB0 := Lib.hid (Below.refl w.heap.size w)
  go_enter Try.func4, Try.ntmps4
  have FV_1 := Lib.hid (Cs.new w (w.heap.size) #[.int .i64 vf, .int .i64 vh, .int .i64 vu] 25 (by simp))
  have HB2 : Hid (Below w.heap.size w (w.alloc (.cells #[.int .i64 vf, .int .i64 vh, .int .i64 vu] 25))) := HB0.out.alloc HB0.out.size _
  clear HB0
  have FV_3 := Lib.hid (FV_1.out.step (al (w.alloc (.cells #[.int .i64 vf, .int .i64 vh, .int .i64 vu] 25)) (.cells #[.int .i64 h, .int .i64 f, .int .i64 u] 27)))
  clear FV_1
  have FL_4 := Lib.hid (Cs.new (w.alloc (.cells #[.int .i64 vf, .int .i64 vh, .int .i64 vu] 25)) (w.heap.size + 1) #[.int .i64 h, .int .i64 f, .int .i64 u] 27 (by simp))
  have HB5 : Hid (Below w.heap.size w ((w.alloc (.cells #[.int .i64 vf, .int .i64 vh, .int .i64 vu] 25)).alloc (.cells #[.int .i64 h, .int .i64 f, .int .i64 u] 27))) := HB2.out.alloc HB2.out.size _
  clear HB2
  go_wp2_with fail
  refine (head_any _).mono ?_
  rintro e u1 ⟨rfl, b1⟩
  have FV_6 := Lib.hid (FV_3.out.step b1)
  clear FV_3
  have FL_7 := Lib.hid (FL_4.out.step b1)
  clear FL_4
  have HB8 := Lib.hid (keep2 b1 HB5.out)
  clear HB5 b1
  have xV0 := FV_6.out.c 0 rfl
  have xV1 := FV_6.out.c 1 rfl
  have xV2 := FV_6.out.c 2 rfl
  have xzV := FV_6.out.2.2
  have xL0 := FL_7.out.c 0 rfl
  have xL1 := FL_7.out.c 1 rfl
  have xL2 := FL_7.out.c 2 rfl
  have xzL := FL_7.out.2.2
  go_wp2_with fail
  refine (vote_no _ _ _ _ _ _ _ _ HV.out).mono ?_
  rintro e u2 ⟨rfl, b2⟩
  clear xV0 xV1 xV2 xzV xL0 xL1 xL2 xzL
  have FV_9 := Lib.hid (FV_6.out.step b2)
  clear FV_6
  have FL_10 := Lib.hid (FL_7.out.step b2)
  clear FL_7
  have HB11 := Lib.hid (keep2 b2 HB8.out)
  clear HB8 b2
  have xV0 := FV_9.out.c 0 rfl
  have xV1 := FV_9.out.c 1 rfl
  have xV2 := FV_9.out.c 2 rfl
  have xzV := FV_9.out.2.2
  have xL0 := FL_10.out.c 0 rfl
  have xL1 := FL_10.out.c 1 rfl
  have xL2 := FL_10.out.c 2 rfl
  have xzL := FL_10.out.2.2
  go_wp2
  go_ret
  exact ⟨rfl, (by repeat (first | with_reducible exact HB11.out | with_reducible exact Below.refl _ _ | ((with_reducible refine Below.setCell ?_ ?_ _); rotate_left; focus (first | (simp; done) | (simp; omega) | omega)) | ((with_reducible refine Below.alloc ?_ ?_ _); rotate_left; focus (first | (simp; done) | (simp; omega) | omega)) | with_reducible refine Below.trans ?_ (below_drewN' _ _ _) | with_reducible refine Below.trans ?_ (below_drew _ _)))⟩
set_option maxRecDepth 100000 in
set_option maxHeartbeats 8000000 in
theorem votes_yes_same (v : Vo) (h f u now : Int) (w : World) (hv : voB v.f v.h v.u h f u now = true) (hh : v.h = h) :
    Calls Try.prog 4 #[.agg #[.int .i64 v.f, .int .i64 v.h, .int .i64 v.u], .agg #[.int .i64 h, .int .i64 f, .int .i64 u], .int .i64 now] w fun e w' => e = .returned (.bool true) ∧ Below w.heap.size w w' := by
  obtain ⟨vf, vh, vu⟩ := v
  simp only at hh hv
  have g1 := vo_facts hv
  have HV := Lib.hid hv
  clear hv
  subst hh
  have g2 := gr_ge vh vu vh u
  have g3 := gr_ge2 vu vh u
  have HY := Lib.hid (fun w => vote_yes vf vh vu vh f u now w HV.out)
  have HZ := Lib.hid (fun w => vote_no f vh (grU vh vu vh u) vh f u now w vo_same)
  clear HV
  generalize grU vh vu vh u = U at *
  have HB0 := Lib.hid (Below.refl w.heap.size w)
  go_enter Try.func4, Try.ntmps4
  have FV_1 := Lib.hid (Cs.new w (w.heap.size) #[.int .i64 vf, .int .i64 vh, .int .i64 vu] 25 (by simp))
  have HB2 : Hid (Below w.heap.size w (w.alloc (.cells #[.int .i64 vf, .int .i64 vh, .int .i64 vu] 25))) := HB0.out.alloc HB0.out.size _
  clear HB0
  have FV_3 := Lib.hid (FV_1.out.step (al (w.alloc (.cells #[.int .i64 vf, .int .i64 vh, .int .i64 vu] 25)) (.cells #[.int .i64 vh, .int .i64 f, .int .i64 u] 27)))
  clear FV_1
  have FL_4 := Lib.hid (Cs.new (w.alloc (.cells #[.int .i64 vf, .int .i64 vh, .int .i64 vu] 25)) (w.heap.size + 1) #[.int .i64 vh, .int .i64 f, .int .i64 u] 27 (by simp))
  have HB5 : Hid (Below w.heap.size w ((w.alloc (.cells #[.int .i64 vf, .int .i64 vh, .int .i64 vu] 25)).alloc (.cells #[.int .i64 vh, .int .i64 f, .int .i64 u] 27))) := HB2.out.alloc HB2.out.size _
  clear HB2
  go_wp2_with fail
  refine (head_any _).mono ?_
  rintro e u1 ⟨rfl, b1⟩
  have FV_6 := Lib.hid (FV_3.out.step b1)
  clear FV_3
  have FL_7 := Lib.hid (FL_4.out.step b1)
  clear FL_4
  have HB8 := Lib.hid (keep2 b1 HB5.out)
  clear HB5 b1
  have xV0 := FV_6.out.c 0 rfl
  have xV1 := FV_6.out.c 1 rfl
  have xV2 := FV_6.out.c 2 rfl
  have xzV := FV_6.out.2.2
  have xL0 := FL_7.out.c 0 rfl
  have xL1 := FL_7.out.c 1 rfl
  have xL2 := FL_7.out.c 2 rfl
  have xzL := FL_7.out.2.2
  go_wp2_with fail
  refine (HY.out _).mono ?_
  rintro e u2 ⟨rfl, b2⟩
  clear xV0 xV1 xV2 xzV xL0 xL1 xL2 xzL
  have FV_9 := Lib.hid (FV_6.out.step b2)
  clear FV_6
  have FL_10 := Lib.hid (FL_7.out.step b2)
  clear FL_7
  have HB11 := Lib.hid (keep2 b2 HB8.out)
  clear HB8 b2
  have FV_12 := Lib.hid (FV_9.out.step (al u2 (.cells #[.int .i64 f, .int .i64 vh, .int .i64 U] 25)))
  clear FV_9
  have FL_13 := Lib.hid (FL_10.out.step (al u2 (.cells #[.int .i64 f, .int .i64 vh, .int .i64 U] 25)))
  clear FL_10
  have FW_14 := Lib.hid (Cs.new u2 (u2.heap.size) #[.int .i64 f, .int .i64 vh, .int .i64 U] 25 (by simp))
  have HB15 : Hid (Below w.heap.size w (u2.alloc (.cells #[.int .i64 f, .int .i64 vh, .int .i64 U] 25))) := HB11.out.alloc HB11.out.size _
  clear HB11
  have xV0 := FV_12.out.c 0 rfl
  have xV1 := FV_12.out.c 1 rfl
  have xV2 := FV_12.out.c 2 rfl
  have xzV := FV_12.out.2.2
  have xL0 := FL_13.out.c 0 rfl
  have xL1 := FL_13.out.c 1 rfl
  have xL2 := FL_13.out.c 2 rfl
  have xzL := FL_13.out.2.2
  have xW0 := FW_14.out.c 0 rfl
  have xW1 := FW_14.out.c 1 rfl
  have xW2 := FW_14.out.c 2 rfl
  have xzW := FW_14.out.2.2
  go_wp2_with fail
  refine (HZ.out _).mono ?_
  rintro e u3 ⟨rfl, b3⟩
  clear xV0 xV1 xV2 xzV xL0 xL1 xL2 xzL xW0 xW1 xW2 xzW
  have FV_16 := Lib.hid (FV_12.out.step b3)
  clear FV_12
  have FL_17 := Lib.hid (FL_13.out.step b3)
  clear FL_13
  have FW_18 := Lib.hid (FW_14.out.step b3)
  clear FW_14
  have HB19 := Lib.hid (keep2 b3 HB15.out)
  clear HB15 b3
  have xV0 := FV_16.out.c 0 rfl
  have xV1 := FV_16.out.c 1 rfl
  have xV2 := FV_16.out.c 2 rfl
  have xzV := FV_16.out.2.2
  have xL0 := FL_17.out.c 0 rfl
  have xL1 := FL_17.out.c 1 rfl
  have xL2 := FL_17.out.c 2 rfl
  have xzL := FL_17.out.2.2
  have xW0 := FW_18.out.c 0 rfl
  have xW1 := FW_18.out.c 1 rfl
  have xW2 := FW_18.out.c 2 rfl
  have xzW := FW_18.out.2.2
  go_wp2
  go_ret
  exact ⟨rfl, (by repeat (first | with_reducible exact HB19.out | with_reducible exact Below.refl _ _ | ((with_reducible refine Below.setCell ?_ ?_ _); rotate_left; focus (first | (simp; done) | (simp; omega) | omega)) | ((with_reducible refine Below.alloc ?_ ?_ _); rotate_left; focus (first | (simp; done) | (simp; omega) | omega)) | with_reducible refine Below.trans ?_ (below_drewN' _ _ _) | with_reducible refine Below.trans ?_ (below_drew _ _)))⟩
set_option maxRecDepth 100000 in
set_option maxHeartbeats 8000000 in
theorem votes_yes_other (v : Vo) (h f u now : Int) (w : World) (hv : voB v.f v.h v.u h f u now = true) (hh : v.h ≠ h) :
    Calls Try.prog 4 #[.agg #[.int .i64 v.f, .int .i64 v.h, .int .i64 v.u], .agg #[.int .i64 h, .int .i64 f, .int .i64 u], .int .i64 now] w fun e w' => e = .returned (.bool true) ∧ Below w.heap.size w w' := by
  obtain ⟨vf, vh, vu⟩ := v
  simp only at hh hv
  have g1 := vo_facts hv
  have HV := Lib.hid hv
  clear hv
  have g2 := gr_ge vh vu h u
  have q : (vh != h) = true := by simpa using hh
  clear hh
  have HY := Lib.hid (fun w => vote_yes vf vh vu h f u now w HV.out)
  have HZ := Lib.hid (fun w => vote_no f h (grU vh vu h u) h f u now w vo_same)
  clear HV
  generalize grU vh vu h u = U at *
  have HB0 := Lib.hid (Below.refl w.heap.size w)
  go_enter Try.func4, Try.ntmps4
  have FV_1 := Lib.hid (Cs.new w (w.heap.size) #[.int .i64 vf, .int .i64 vh, .int .i64 vu] 25 (by simp))
  have HB2 : Hid (Below w.heap.size w (w.alloc (.cells #[.int .i64 vf, .int .i64 vh, .int .i64 vu] 25))) := HB0.out.alloc HB0.out.size _
  clear HB0
  have FV_3 := Lib.hid (FV_1.out.step (al (w.alloc (.cells #[.int .i64 vf, .int .i64 vh, .int .i64 vu] 25)) (.cells #[.int .i64 h, .int .i64 f, .int .i64 u] 27)))
  clear FV_1
  have FL_4 := Lib.hid (Cs.new (w.alloc (.cells #[.int .i64 vf, .int .i64 vh, .int .i64 vu] 25)) (w.heap.size + 1) #[.int .i64 h, .int .i64 f, .int .i64 u] 27 (by simp))
  have HB5 : Hid (Below w.heap.size w ((w.alloc (.cells #[.int .i64 vf, .int .i64 vh, .int .i64 vu] 25)).alloc (.cells #[.int .i64 h, .int .i64 f, .int .i64 u] 27))) := HB2.out.alloc HB2.out.size _
  clear HB2
  go_wp2_with fail
  refine (head_any _).mono ?_
  rintro e u1 ⟨rfl, b1⟩
  have FV_6 := Lib.hid (FV_3.out.step b1)
  clear FV_3
  have FL_7 := Lib.hid (FL_4.out.step b1)
  clear FL_4
  have HB8 := Lib.hid (keep2 b1 HB5.out)
  clear HB5 b1
  have xV0 := FV_6.out.c 0 rfl
  have xV1 := FV_6.out.c 1 rfl
  have xV2 := FV_6.out.c 2 rfl
  have xzV := FV_6.out.2.2
  have xL0 := FL_7.out.c 0 rfl
  have xL1 := FL_7.out.c 1 rfl
  have xL2 := FL_7.out.c 2 rfl
  have xzL := FL_7.out.2.2
  go_wp2_with fail
  refine (HY.out _).mono ?_
  rintro e u2 ⟨rfl, b2⟩
  clear xV0 xV1 xV2 xzV xL0 xL1 xL2 xzL
  have FV_9 := Lib.hid (FV_6.out.step b2)
  clear FV_6
  have FL_10 := Lib.hid (FL_7.out.step b2)
  clear FL_7
  have HB11 := Lib.hid (keep2 b2 HB8.out)
  clear HB8 b2
  have FV_12 := Lib.hid (FV_9.out.step (al u2 (.cells #[.int .i64 f, .int .i64 h, .int .i64 U] 25)))
  clear FV_9
  have FL_13 := Lib.hid (FL_10.out.step (al u2 (.cells #[.int .i64 f, .int .i64 h, .int .i64 U] 25)))
  clear FL_10
  have FW_14 := Lib.hid (Cs.new u2 (u2.heap.size) #[.int .i64 f, .int .i64 h, .int .i64 U] 25 (by simp))
  have HB15 : Hid (Below w.heap.size w (u2.alloc (.cells #[.int .i64 f, .int .i64 h, .int .i64 U] 25))) := HB11.out.alloc HB11.out.size _
  clear HB11
  have xV0 := FV_12.out.c 0 rfl
  have xV1 := FV_12.out.c 1 rfl
  have xV2 := FV_12.out.c 2 rfl
  have xzV := FV_12.out.2.2
  have xL0 := FL_13.out.c 0 rfl
  have xL1 := FL_13.out.c 1 rfl
  have xL2 := FL_13.out.c 2 rfl
  have xzL := FL_13.out.2.2
  have xW0 := FW_14.out.c 0 rfl
  have xW1 := FW_14.out.c 1 rfl
  have xW2 := FW_14.out.c 2 rfl
  have xzW := FW_14.out.2.2
  go_wp2_with fail
  refine (HZ.out _).mono ?_
  rintro e u3 ⟨rfl, b3⟩
  clear xV0 xV1 xV2 xzV xL0 xL1 xL2 xzL xW0 xW1 xW2 xzW
  have FV_16 := Lib.hid (FV_12.out.step b3)
  clear FV_12
  have FL_17 := Lib.hid (FL_13.out.step b3)
  clear FL_13
  have FW_18 := Lib.hid (FW_14.out.step b3)
  clear FW_14
  have HB19 := Lib.hid (keep2 b3 HB15.out)
  clear HB15 b3
  have xV0 := FV_16.out.c 0 rfl
  have xV1 := FV_16.out.c 1 rfl
  have xV2 := FV_16.out.c 2 rfl
  have xzV := FV_16.out.2.2
  have xL0 := FL_17.out.c 0 rfl
  have xL1 := FL_17.out.c 1 rfl
  have xL2 := FL_17.out.c 2 rfl
  have xzL := FL_17.out.2.2
  have xW0 := FW_18.out.c 0 rfl
  have xW1 := FW_18.out.c 1 rfl
  have xW2 := FW_18.out.c 2 rfl
  have xzW := FW_18.out.2.2
  go_wp2
  go_ret
  exact ⟨rfl, (by repeat (first | with_reducible exact HB19.out | with_reducible exact Below.refl _ _ | ((with_reducible refine Below.setCell ?_ ?_ _); rotate_left; focus (first | (simp; done) | (simp; omega) | omega)) | ((with_reducible refine Below.alloc ?_ ?_ _); rotate_left; focus (first | (simp; done) | (simp; omega) | omega)) | with_reducible refine Below.trans ?_ (below_drewN' _ _ _) | with_reducible refine Below.trans ?_ (below_drew _ _)))⟩
theorem votes_any (v : Vo) (h f u now : Int) (w : World) :
    Calls Try.prog 4 #[.agg #[.int .i64 v.f, .int .i64 v.h, .int .i64 v.u], .agg #[.int .i64 h, .int .i64 f, .int .i64 u], .int .i64 now] w fun e w' => e = .returned (.bool true) ∧ Below w.heap.size w w' := by
  cases hv : voB v.f v.h v.u h f u now
  · exact votes_no v h f u now w hv
  · by_cases hh : v.h = h
    · exact votes_yes_same v h f u now w hv hh
    · exact votes_yes_other v h f u now w hv hh
end Go.Proofs.Ytelohejnbfefoaa
