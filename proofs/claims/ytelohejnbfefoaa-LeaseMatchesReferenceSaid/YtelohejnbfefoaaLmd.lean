/- Law LeaseMatchesReference: the walk. -/
import Derived.Test.YtelohejnbfefoaaLmc
import Derived.Test.YtelohejnbfefoaaLr
namespace Go.Proofs.Ytelohejnbfefoaa
open Go.RowKit

/-- One value set. -/
def upvM (vs : Nat → Value) (i : Nat) (x : Value) : Nat → Value := fun k => cond (k == i) x (vs k)
theorem up_valM {vs : Nat → Value} {bf : Nat → Bool} {val : List Value} (i : Nat) (h : ∀ k, bf k = true → vs k = val.getD k undef) {x : Value} (hx : val.getD i undef = x) : ∀ k, up bf i k = true → upvM vs i x k = val.getD k undef := fun k hk => by
  unfold upvM
  by_cases e : k = i
  · subst e; simp only [beq_self_eq_true, cond_true]; exact hx.symm
  · have : (k == i) = false := by simpa using e
    rw [this]
    exact h k (by unfold up at hk; rwa [if_neg e] at hk)
theorem holds_m (h f u now : Int) (w : World) : Calls Try.prog 17 #[.agg #[.int .i64 h, .int .i64 f, .int .i64 u], .int .i64 now] w fun e w' => e = .returned (.bool (hoB f u now)) ∧ Below w.heap.size w w' := holds_any h f u now w
theorem voteV (h f u now : Int) (x : Vo) (w : World) : Calls Try.prog 14 #[.agg #[.int .i64 x.f, .int .i64 x.h, .int .i64 x.u], .agg #[.int .i64 h, .int .i64 f, .int .i64 u], .int .i64 now] w fun e w' => e = .returned (.tuple #[.agg #[.int .i64 (votV h f u now x).f, .int .i64 (votV h f u now x).h, .int .i64 (votV h f u now x).u], .bool (voB x.f x.h x.u h f u now)]) ∧ Below w.heap.size w w' :=
  (vote_any x.f x.h x.u h f u now w).mono fun e w' hh => ⟨by rw [hh.1]; unfold votedV votV; split <;> rfl, hh.2⟩
theorem same_self (v va : Value) (L : List Vo) (w : World) (hl : VosAt w v L) (ha : VosAt w va L) : Calls Try.prog 16 #[v, va] w fun e w' => e = .returned (.bool true) ∧ Below w.heap.size w w' := same_any v va L L true (by unfold smB; simp) w hl ha
set_option maxRecDepth 100000 in
set_option maxHeartbeats 16000000 in
theorem match_out (v va : Value) (L : List Vo) (A : List Bool) (hub now len : Int) (x : Vo) (h f u : Int) (w : World) (hl : VosAt w v L) (ha : BosAt w va A) (hs : ¬ (L.length ≤ 5 ∧ A.length ≤ 5)) :
    Calls Try.prog 3 #[v, va, .int .i64 hub, .int .i64 now, .int .i64 len, .agg #[.int .i64 x.f, .int .i64 x.h, .int .i64 x.u], .agg #[.int .i64 h, .int .i64 f, .int .i64 u]] w fun e w' => e = .returned (.bool true) ∧ Below w.heap.size w w' := by
  have HL := Lib.hid hl
  have HA := Lib.hid ha
  obtain ⟨a, cap, rfl, hm, -⟩ := hl
  obtain ⟨aa, capa, rfl, hma, -⟩ := ha
  unfold maxLen at hm hma
  have hs2 : 5 < L.length ∨ (L.length ≤ 5 ∧ 5 < A.length) := by omega
  clear hs
  rcases hs2 with h1 | ⟨h1, h2⟩
  all_goals
    go_enter Try.func3, Try.ntmps3
    go_wp2_with fail
    refine (head_any _).mono ?_
    rintro e w1 ⟨rfl, b1⟩
    have B1 := Lib.hid (keep2 b1 al2)
    clear b1
    go_wp2
    go_ret
    exact ⟨rfl, B1.out⟩
set_option maxRecDepth 100000 in
set_option maxHeartbeats 16000000 in
theorem match_in (v va : Value) (L : List Vo) (A : List Bool) (hub now len : Int) (x : Vo) (h f u : Int) (w : World) (hl : VosAt w v L) (ha : BosAt w va A) (hs : L.length ≤ 5 ∧ A.length ≤ 5) :
    Calls Try.prog 3 #[v, va, .int .i64 hub, .int .i64 now, .int .i64 len, .agg #[.int .i64 x.f, .int .i64 x.h, .int .i64 x.u], .agg #[.int .i64 h, .int .i64 f, .int .i64 u]] w fun e w' => e = .returned (.bool true) ∧ Below w.heap.size w w' := by
  have HL := Lib.hid hl
  have HA := Lib.hid ha
  obtain ⟨a, cap, rfl, hm, -⟩ := hl
  obtain ⟨aa, capa, rfl, hma, -⟩ := ha
  unfold maxLen at hm hma
  obtain ⟨hs1, hs2⟩ := hs
  obtain ⟨V, eh, ef, eu, er, hE⟩ := ew_total L A hub now len
  obtain ⟨ph, pf, pu, pr, hP⟩ := pw_total L A hub now len
  have HE := Lib.hid hE
  have HP := Lib.hid hP
  have HV1 := Lib.hid (voteV h f u now x)
  have HV2 := Lib.hid (rvoteV h f u now x)
  clear hE hP
  obtain ⟨xf, xh, xu⟩ := x
  simp only at HV1 HV2
  obtain ⟨⟨qf, qh, qu⟩, hq⟩ : ∃ q, votV h f u now ⟨xf, xh, xu⟩ = q := ⟨_, rfl⟩
  obtain ⟨bb, hbb⟩ : ∃ bb, voB xf xh xu h f u now = bb := ⟨_, rfl⟩
  obtain ⟨ho, hho⟩ : ∃ ho, hoB f u now = ho := ⟨_, rfl⟩
  have HH1 := Lib.hid (fun w => holds_m h f u now w)
  have HH2 := Lib.hid (fun w => rholds_any h f u now w)
  rw [hq, hbb] at HV1 HV2
  rw [hho] at HH1 HH2
  clear hq hbb hho
  have FL_1 := Lib.hid (HL.out)
  have FA_2 := Lib.hid (HA.out)
  have HB0 := Lib.hid (Below.refl w.heap.size w)
  go_enter Try.func3, Try.ntmps3
  have FL_3 := Lib.hid (FL_1.out.step (al w (.cells #[.int .i64 xf, .int .i64 xh, .int .i64 xu] 25)))
  clear FL_1
  have FA_4 := Lib.hid (FA_2.out.step (al w (.cells #[.int .i64 xf, .int .i64 xh, .int .i64 xu] 25)))
  clear FA_2
  have FVX_5 := Lib.hid (Cs.new w (w.heap.size) #[.int .i64 xf, .int .i64 xh, .int .i64 xu] 25 (by simp))
  have HB6 : Hid (Below w.heap.size w (w.alloc (.cells #[.int .i64 xf, .int .i64 xh, .int .i64 xu] 25))) := HB0.out.alloc HB0.out.size _
  clear HB0
  have FL_7 := Lib.hid (FL_3.out.step (al (w.alloc (.cells #[.int .i64 xf, .int .i64 xh, .int .i64 xu] 25)) (.cells #[.int .i64 h, .int .i64 f, .int .i64 u] 27)))
  clear FL_3
  have FA_8 := Lib.hid (FA_4.out.step (al (w.alloc (.cells #[.int .i64 xf, .int .i64 xh, .int .i64 xu] 25)) (.cells #[.int .i64 h, .int .i64 f, .int .i64 u] 27)))
  clear FA_4
  have FVX_9 := Lib.hid (FVX_5.out.step (al (w.alloc (.cells #[.int .i64 xf, .int .i64 xh, .int .i64 xu] 25)) (.cells #[.int .i64 h, .int .i64 f, .int .i64 u] 27)))
  clear FVX_5
  have FXB_10 := Lib.hid (Cs.new (w.alloc (.cells #[.int .i64 xf, .int .i64 xh, .int .i64 xu] 25)) (w.heap.size + 1) #[.int .i64 h, .int .i64 f, .int .i64 u] 27 (by simp))
  have HB11 : Hid (Below w.heap.size w ((w.alloc (.cells #[.int .i64 xf, .int .i64 xh, .int .i64 xu] 25)).alloc (.cells #[.int .i64 h, .int .i64 f, .int .i64 u] 27))) := HB6.out.alloc HB6.out.size _
  clear HB6
  go_wp2_with fail
  refine (head_any _).mono ?_
  rintro e u1 ⟨rfl, b1⟩
  have FL_12 := Lib.hid (FL_7.out.step b1)
  clear FL_7
  have FA_13 := Lib.hid (FA_8.out.step b1)
  clear FA_8
  have FVX_14 := Lib.hid (FVX_9.out.step b1)
  clear FVX_9
  have FXB_15 := Lib.hid (FXB_10.out.step b1)
  clear FXB_10
  have HB16 := Lib.hid (keep2 b1 HB11.out)
  clear HB11 b1
  go_wp2_with fail
  refine (elect_any HE.out _ _ _ FL_12.out FA_13.out).mono ?_
  rintro e u2 ⟨r1, rfl, hr1, b2⟩
  have FL_17 := Lib.hid (FL_12.out.step b2)
  clear FL_12
  have FA_18 := Lib.hid (FA_13.out.step b2)
  clear FA_13
  have FVX_19 := Lib.hid (FVX_14.out.step b2)
  clear FVX_14
  have FXB_20 := Lib.hid (FXB_15.out.step b2)
  clear FXB_15
  have HB21 := Lib.hid (keep2 b2 HB16.out)
  clear HB16 b2
  have FR1_22 := Lib.hid (hr1)
  clear hr1
  have FL_23 := Lib.hid (FL_17.out.step (al u2 (.cells #[.int .i64 eh, .int .i64 ef, .int .i64 eu] 27)))
  clear FL_17
  have FA_24 := Lib.hid (FA_18.out.step (al u2 (.cells #[.int .i64 eh, .int .i64 ef, .int .i64 eu] 27)))
  clear FA_18
  have FVX_25 := Lib.hid (FVX_19.out.step (al u2 (.cells #[.int .i64 eh, .int .i64 ef, .int .i64 eu] 27)))
  clear FVX_19
  have FXB_26 := Lib.hid (FXB_20.out.step (al u2 (.cells #[.int .i64 eh, .int .i64 ef, .int .i64 eu] 27)))
  clear FXB_20
  have FR1_27 := Lib.hid (FR1_22.out.step (al u2 (.cells #[.int .i64 eh, .int .i64 ef, .int .i64 eu] 27)))
  clear FR1_22
  have FE1_28 := Lib.hid (Cs.new u2 (u2.heap.size) #[.int .i64 eh, .int .i64 ef, .int .i64 eu] 27 (by simp))
  have HB29 : Hid (Below w.heap.size w (u2.alloc (.cells #[.int .i64 eh, .int .i64 ef, .int .i64 eu] 27))) := HB21.out.alloc HB21.out.size _
  clear HB21
  go_wp2_with fail
  refine (relect_any HE.out _ _ _ FL_23.out FA_24.out).mono ?_
  rintro e u3 ⟨r2, rfl, hr2, b3⟩
  have FL_30 := Lib.hid (FL_23.out.step b3)
  clear FL_23
  have FA_31 := Lib.hid (FA_24.out.step b3)
  clear FA_24
  have FVX_32 := Lib.hid (FVX_25.out.step b3)
  clear FVX_25
  have FXB_33 := Lib.hid (FXB_26.out.step b3)
  clear FXB_26
  have FR1_34 := Lib.hid (FR1_27.out.step b3)
  clear FR1_27
  have FE1_35 := Lib.hid (FE1_28.out.step b3)
  clear FE1_28
  have HB36 := Lib.hid (keep2 b3 HB29.out)
  clear HB29 b3
  have FR2_37 := Lib.hid (hr2)
  clear hr2
  have FL_38 := Lib.hid (FL_30.out.step (al u3 (.cells #[.int .i64 eh, .int .i64 ef, .int .i64 eu] 27)))
  clear FL_30
  have FA_39 := Lib.hid (FA_31.out.step (al u3 (.cells #[.int .i64 eh, .int .i64 ef, .int .i64 eu] 27)))
  clear FA_31
  have FVX_40 := Lib.hid (FVX_32.out.step (al u3 (.cells #[.int .i64 eh, .int .i64 ef, .int .i64 eu] 27)))
  clear FVX_32
  have FXB_41 := Lib.hid (FXB_33.out.step (al u3 (.cells #[.int .i64 eh, .int .i64 ef, .int .i64 eu] 27)))
  clear FXB_33
  have FR1_42 := Lib.hid (FR1_34.out.step (al u3 (.cells #[.int .i64 eh, .int .i64 ef, .int .i64 eu] 27)))
  clear FR1_34
  have FE1_43 := Lib.hid (FE1_35.out.step (al u3 (.cells #[.int .i64 eh, .int .i64 ef, .int .i64 eu] 27)))
  clear FE1_35
  have FR2_44 := Lib.hid (FR2_37.out.step (al u3 (.cells #[.int .i64 eh, .int .i64 ef, .int .i64 eu] 27)))
  clear FR2_37
  have FE2_45 := Lib.hid (Cs.new u3 (u3.heap.size) #[.int .i64 eh, .int .i64 ef, .int .i64 eu] 27 (by simp))
  have HB46 : Hid (Below w.heap.size w (u3.alloc (.cells #[.int .i64 eh, .int .i64 ef, .int .i64 eu] 27))) := HB36.out.alloc HB36.out.size _
  clear HB36
  go_wp2_with fail
  refine (propose_any HP.out _ _ _ FL_38.out FA_39.out).mono ?_
  rintro e u4 ⟨rfl, b4⟩
  have FL_47 := Lib.hid (FL_38.out.step b4)
  clear FL_38
  have FA_48 := Lib.hid (FA_39.out.step b4)
  clear FA_39
  have FVX_49 := Lib.hid (FVX_40.out.step b4)
  clear FVX_40
  have FXB_50 := Lib.hid (FXB_41.out.step b4)
  clear FXB_41
  have FR1_51 := Lib.hid (FR1_42.out.step b4)
  clear FR1_42
  have FE1_52 := Lib.hid (FE1_43.out.step b4)
  clear FE1_43
  have FR2_53 := Lib.hid (FR2_44.out.step b4)
  clear FR2_44
  have FE2_54 := Lib.hid (FE2_45.out.step b4)
  clear FE2_45
  have HB55 := Lib.hid (keep2 b4 HB46.out)
  clear HB46 b4
  have FL_56 := Lib.hid (FL_47.out.step (al u4 (.cells #[.int .i64 ph, .int .i64 pf, .int .i64 pu] 27)))
  clear FL_47
  have FA_57 := Lib.hid (FA_48.out.step (al u4 (.cells #[.int .i64 ph, .int .i64 pf, .int .i64 pu] 27)))
  clear FA_48
  have FVX_58 := Lib.hid (FVX_49.out.step (al u4 (.cells #[.int .i64 ph, .int .i64 pf, .int .i64 pu] 27)))
  clear FVX_49
  have FXB_59 := Lib.hid (FXB_50.out.step (al u4 (.cells #[.int .i64 ph, .int .i64 pf, .int .i64 pu] 27)))
  clear FXB_50
  have FR1_60 := Lib.hid (FR1_51.out.step (al u4 (.cells #[.int .i64 ph, .int .i64 pf, .int .i64 pu] 27)))
  clear FR1_51
  have FE1_61 := Lib.hid (FE1_52.out.step (al u4 (.cells #[.int .i64 ph, .int .i64 pf, .int .i64 pu] 27)))
  clear FE1_52
  have FR2_62 := Lib.hid (FR2_53.out.step (al u4 (.cells #[.int .i64 ph, .int .i64 pf, .int .i64 pu] 27)))
  clear FR2_53
  have FE2_63 := Lib.hid (FE2_54.out.step (al u4 (.cells #[.int .i64 ph, .int .i64 pf, .int .i64 pu] 27)))
  clear FE2_54
  have FP1_64 := Lib.hid (Cs.new u4 (u4.heap.size) #[.int .i64 ph, .int .i64 pf, .int .i64 pu] 27 (by simp))
  have HB65 : Hid (Below w.heap.size w (u4.alloc (.cells #[.int .i64 ph, .int .i64 pf, .int .i64 pu] 27))) := HB55.out.alloc HB55.out.size _
  clear HB55
  go_wp2_with fail
  refine (rpropose_any HP.out _ _ _ FL_56.out FA_57.out).mono ?_
  rintro e u5 ⟨rfl, b5⟩
  have FL_66 := Lib.hid (FL_56.out.step b5)
  clear FL_56
  have FA_67 := Lib.hid (FA_57.out.step b5)
  clear FA_57
  have FVX_68 := Lib.hid (FVX_58.out.step b5)
  clear FVX_58
  have FXB_69 := Lib.hid (FXB_59.out.step b5)
  clear FXB_59
  have FR1_70 := Lib.hid (FR1_60.out.step b5)
  clear FR1_60
  have FE1_71 := Lib.hid (FE1_61.out.step b5)
  clear FE1_61
  have FR2_72 := Lib.hid (FR2_62.out.step b5)
  clear FR2_62
  have FE2_73 := Lib.hid (FE2_63.out.step b5)
  clear FE2_63
  have FP1_74 := Lib.hid (FP1_64.out.step b5)
  clear FP1_64
  have HB75 := Lib.hid (keep2 b5 HB65.out)
  clear HB65 b5
  clear FL_66
  clear FA_67
  have FVX_76 := Lib.hid (FVX_68.out.step (al u5 (.cells #[.int .i64 ph, .int .i64 pf, .int .i64 pu] 27)))
  clear FVX_68
  have FXB_77 := Lib.hid (FXB_69.out.step (al u5 (.cells #[.int .i64 ph, .int .i64 pf, .int .i64 pu] 27)))
  clear FXB_69
  have FR1_78 := Lib.hid (FR1_70.out.step (al u5 (.cells #[.int .i64 ph, .int .i64 pf, .int .i64 pu] 27)))
  clear FR1_70
  have FE1_79 := Lib.hid (FE1_71.out.step (al u5 (.cells #[.int .i64 ph, .int .i64 pf, .int .i64 pu] 27)))
  clear FE1_71
  have FR2_80 := Lib.hid (FR2_72.out.step (al u5 (.cells #[.int .i64 ph, .int .i64 pf, .int .i64 pu] 27)))
  clear FR2_72
  have FE2_81 := Lib.hid (FE2_73.out.step (al u5 (.cells #[.int .i64 ph, .int .i64 pf, .int .i64 pu] 27)))
  clear FE2_73
  have FP1_82 := Lib.hid (FP1_74.out.step (al u5 (.cells #[.int .i64 ph, .int .i64 pf, .int .i64 pu] 27)))
  clear FP1_74
  have FP2_83 := Lib.hid (Cs.new u5 (u5.heap.size) #[.int .i64 ph, .int .i64 pf, .int .i64 pu] 27 (by simp))
  have HB84 : Hid (Below w.heap.size w (u5.alloc (.cells #[.int .i64 ph, .int .i64 pf, .int .i64 pu] 27))) := HB75.out.alloc HB75.out.size _
  clear HB75
  have xVX0 := FVX_76.out.c 0 rfl
  have xVX1 := FVX_76.out.c 1 rfl
  have xVX2 := FVX_76.out.c 2 rfl
  have xzVX := FVX_76.out.2.2
  have xXB0 := FXB_77.out.c 0 rfl
  have xXB1 := FXB_77.out.c 1 rfl
  have xXB2 := FXB_77.out.c 2 rfl
  have xzXB := FXB_77.out.2.2
  go_wp2_with fail
  refine (HV1.out _).mono ?_
  rintro e u6 ⟨rfl, b6⟩
  clear xVX0 xVX1 xVX2 xzVX xXB0 xXB1 xXB2 xzXB
  have FVX_85 := Lib.hid (FVX_76.out.step b6)
  clear FVX_76
  have FXB_86 := Lib.hid (FXB_77.out.step b6)
  clear FXB_77
  have FR1_87 := Lib.hid (FR1_78.out.step b6)
  clear FR1_78
  have FE1_88 := Lib.hid (FE1_79.out.step b6)
  clear FE1_79
  have FR2_89 := Lib.hid (FR2_80.out.step b6)
  clear FR2_80
  have FE2_90 := Lib.hid (FE2_81.out.step b6)
  clear FE2_81
  have FP1_91 := Lib.hid (FP1_82.out.step b6)
  clear FP1_82
  have FP2_92 := Lib.hid (FP2_83.out.step b6)
  clear FP2_83
  have HB93 := Lib.hid (keep2 b6 HB84.out)
  clear HB84 b6
  have FVX_94 := Lib.hid (FVX_85.out.step (al u6 (.cells #[.int .i64 qf, .int .i64 qh, .int .i64 qu] 25)))
  clear FVX_85
  have FXB_95 := Lib.hid (FXB_86.out.step (al u6 (.cells #[.int .i64 qf, .int .i64 qh, .int .i64 qu] 25)))
  clear FXB_86
  have FR1_96 := Lib.hid (FR1_87.out.step (al u6 (.cells #[.int .i64 qf, .int .i64 qh, .int .i64 qu] 25)))
  clear FR1_87
  have FE1_97 := Lib.hid (FE1_88.out.step (al u6 (.cells #[.int .i64 qf, .int .i64 qh, .int .i64 qu] 25)))
  clear FE1_88
  have FR2_98 := Lib.hid (FR2_89.out.step (al u6 (.cells #[.int .i64 qf, .int .i64 qh, .int .i64 qu] 25)))
  clear FR2_89
  have FE2_99 := Lib.hid (FE2_90.out.step (al u6 (.cells #[.int .i64 qf, .int .i64 qh, .int .i64 qu] 25)))
  clear FE2_90
  have FP1_100 := Lib.hid (FP1_91.out.step (al u6 (.cells #[.int .i64 qf, .int .i64 qh, .int .i64 qu] 25)))
  clear FP1_91
  have FP2_101 := Lib.hid (FP2_92.out.step (al u6 (.cells #[.int .i64 qf, .int .i64 qh, .int .i64 qu] 25)))
  clear FP2_92
  have FW1_102 := Lib.hid (Cs.new u6 (u6.heap.size) #[.int .i64 qf, .int .i64 qh, .int .i64 qu] 25 (by simp))
  have HB103 : Hid (Below w.heap.size w (u6.alloc (.cells #[.int .i64 qf, .int .i64 qh, .int .i64 qu] 25))) := HB93.out.alloc HB93.out.size _
  clear HB93
  have xVX0 := FVX_94.out.c 0 rfl
  have xVX1 := FVX_94.out.c 1 rfl
  have xVX2 := FVX_94.out.c 2 rfl
  have xzVX := FVX_94.out.2.2
  have xXB0 := FXB_95.out.c 0 rfl
  have xXB1 := FXB_95.out.c 1 rfl
  have xXB2 := FXB_95.out.c 2 rfl
  have xzXB := FXB_95.out.2.2
  go_wp2_with fail
  refine (HV2.out _).mono ?_
  rintro e u7 ⟨rfl, b7⟩
  clear xVX0 xVX1 xVX2 xzVX xXB0 xXB1 xXB2 xzXB
  have FVX_104 := Lib.hid (FVX_94.out.step b7)
  clear FVX_94
  have FXB_105 := Lib.hid (FXB_95.out.step b7)
  clear FXB_95
  have FR1_106 := Lib.hid (FR1_96.out.step b7)
  clear FR1_96
  have FE1_107 := Lib.hid (FE1_97.out.step b7)
  clear FE1_97
  have FR2_108 := Lib.hid (FR2_98.out.step b7)
  clear FR2_98
  have FE2_109 := Lib.hid (FE2_99.out.step b7)
  clear FE2_99
  have FP1_110 := Lib.hid (FP1_100.out.step b7)
  clear FP1_100
  have FP2_111 := Lib.hid (FP2_101.out.step b7)
  clear FP2_101
  have FW1_112 := Lib.hid (FW1_102.out.step b7)
  clear FW1_102
  have HB113 := Lib.hid (keep2 b7 HB103.out)
  clear HB103 b7
  have FVX_114 := Lib.hid (FVX_104.out.step (al u7 (.cells #[.int .i64 qf, .int .i64 qh, .int .i64 qu] 25)))
  clear FVX_104
  have FXB_115 := Lib.hid (FXB_105.out.step (al u7 (.cells #[.int .i64 qf, .int .i64 qh, .int .i64 qu] 25)))
  clear FXB_105
  have FR1_116 := Lib.hid (FR1_106.out.step (al u7 (.cells #[.int .i64 qf, .int .i64 qh, .int .i64 qu] 25)))
  clear FR1_106
  have FE1_117 := Lib.hid (FE1_107.out.step (al u7 (.cells #[.int .i64 qf, .int .i64 qh, .int .i64 qu] 25)))
  clear FE1_107
  have FR2_118 := Lib.hid (FR2_108.out.step (al u7 (.cells #[.int .i64 qf, .int .i64 qh, .int .i64 qu] 25)))
  clear FR2_108
  have FE2_119 := Lib.hid (FE2_109.out.step (al u7 (.cells #[.int .i64 qf, .int .i64 qh, .int .i64 qu] 25)))
  clear FE2_109
  have FP1_120 := Lib.hid (FP1_110.out.step (al u7 (.cells #[.int .i64 qf, .int .i64 qh, .int .i64 qu] 25)))
  clear FP1_110
  have FP2_121 := Lib.hid (FP2_111.out.step (al u7 (.cells #[.int .i64 qf, .int .i64 qh, .int .i64 qu] 25)))
  clear FP2_111
  have FW1_122 := Lib.hid (FW1_112.out.step (al u7 (.cells #[.int .i64 qf, .int .i64 qh, .int .i64 qu] 25)))
  clear FW1_112
  have FW2_123 := Lib.hid (Cs.new u7 (u7.heap.size) #[.int .i64 qf, .int .i64 qh, .int .i64 qu] 25 (by simp))
  have HB124 : Hid (Below w.heap.size w (u7.alloc (.cells #[.int .i64 qf, .int .i64 qh, .int .i64 qu] 25))) := HB113.out.alloc HB113.out.size _
  clear HB113
  clear FVX_114
  go_upto_region 10 with fail
  obtain ⟨wq, hwq⟩ : ∃ wq, (u7.alloc (.cells #[.int .i64 qf, .int .i64 qh, .int .i64 qu] 25)) = wq := ⟨_, rfl⟩
  rw [hwq] at FXB_115 FR1_116 FE1_117 FR2_118 FE2_119 FP1_120 FP2_121 FW1_122 FW2_123 HB124 ⊢
  clear hwq
  obtain ⟨lit, hlit⟩ : ∃ lit : (Nat → Value) → Act, lit = fun vs => { tmps := #[Value.slice a L.length cap, Value.slice aa A.length capa, Value.int IntKind.i64 hub, Value.int IntKind.i64 now, Value.int IntKind.i64 len, Value.agg #[Value.int IntKind.i64 xf, Value.int IntKind.i64 xh, Value.int IntKind.i64 xu], Value.agg #[Value.int IntKind.i64 h, Value.int IntKind.i64 f, Value.int IntKind.i64 u], undef, undef, undef, undef, undef, Value.pointer (some { block := w.heap.size, off := 0 }), Value.pointer (some { block := w.heap.size + 1, off := 0 }), vs 45, Value.bool true, r1, Value.pointer (some { block := u2.heap.size, off := 0 }), Value.int IntKind.i64 er, r2, Value.pointer (some { block := u3.heap.size, off := 0 }), Value.int IntKind.i64 er, Value.pointer (some { block := u4.heap.size, off := 0 }), Value.int IntKind.i64 pr, Value.pointer (some { block := u5.heap.size, off := 0 }), Value.int IntKind.i64 pr, Value.pointer (some { block := u6.heap.size, off := 0 }), Value.bool bb, Value.pointer (some { block := u7.heap.size, off := 0 }), Value.bool bb, Value.bool true, Value.slice a L.length cap, Value.int IntKind.i64 (L.length : Int), Value.bool (decide ((5 : Int) < (L.length : Int))), Value.bool (decide ((5 : Int) < (L.length : Int))), Value.slice aa A.length capa, Value.int IntKind.i64 (A.length : Int), Value.bool (decide ((5 : Int) < (A.length : Int))), Value.bool (decide ((5 : Int) < (L.length : Int)) || decide ((5 : Int) < (A.length : Int))), undef, Value.tuple #[r1, Value.agg #[Value.int IntKind.i64 eh, Value.int IntKind.i64 ef, Value.int IntKind.i64 eu], Value.int IntKind.i64 er], Value.slice a L.length cap, Value.slice aa A.length capa, Value.int IntKind.i64 hub, Value.int IntKind.i64 now, Value.int IntKind.i64 len, Value.tuple #[r1, Value.agg #[Value.int IntKind.i64 eh, Value.int IntKind.i64 ef, Value.int IntKind.i64 eu], Value.int IntKind.i64 er], r1, Value.agg #[Value.int IntKind.i64 eh, Value.int IntKind.i64 ef, Value.int IntKind.i64 eu], Value.int IntKind.i64 er, Value.tuple #[r2, Value.agg #[Value.int IntKind.i64 eh, Value.int IntKind.i64 ef, Value.int IntKind.i64 eu], Value.int IntKind.i64 er], Value.slice a L.length cap, Value.slice aa A.length capa, Value.int IntKind.i64 hub, Value.int IntKind.i64 now, Value.int IntKind.i64 len, Value.tuple #[r2, Value.agg #[Value.int IntKind.i64 eh, Value.int IntKind.i64 ef, Value.int IntKind.i64 eu], Value.int IntKind.i64 er], r2, Value.agg #[Value.int IntKind.i64 eh, Value.int IntKind.i64 ef, Value.int IntKind.i64 eu], Value.int IntKind.i64 er, Value.tuple #[Value.agg #[Value.int IntKind.i64 ph, Value.int IntKind.i64 pf, Value.int IntKind.i64 pu], Value.int IntKind.i64 pr], Value.slice a L.length cap, Value.slice aa A.length capa, Value.int IntKind.i64 hub, Value.int IntKind.i64 now, Value.int IntKind.i64 len, Value.tuple #[Value.agg #[Value.int IntKind.i64 ph, Value.int IntKind.i64 pf, Value.int IntKind.i64 pu], Value.int IntKind.i64 pr], Value.agg #[Value.int IntKind.i64 ph, Value.int IntKind.i64 pf, Value.int IntKind.i64 pu], Value.int IntKind.i64 pr, Value.tuple #[Value.agg #[Value.int IntKind.i64 ph, Value.int IntKind.i64 pf, Value.int IntKind.i64 pu], Value.int IntKind.i64 pr], Value.slice a L.length cap, Value.slice aa A.length capa, Value.int IntKind.i64 hub, Value.int IntKind.i64 now, Value.int IntKind.i64 len, Value.tuple #[Value.agg #[Value.int IntKind.i64 ph, Value.int IntKind.i64 pf, Value.int IntKind.i64 pu], Value.int IntKind.i64 pr], Value.agg #[Value.int IntKind.i64 ph, Value.int IntKind.i64 pf, Value.int IntKind.i64 pu], Value.int IntKind.i64 pr, Value.tuple #[Value.agg #[Value.int IntKind.i64 qf, Value.int IntKind.i64 qh, Value.int IntKind.i64 qu], Value.bool bb], Value.agg #[Value.int IntKind.i64 xf, Value.int IntKind.i64 xh, Value.int IntKind.i64 xu], Value.agg #[Value.int IntKind.i64 h, Value.int IntKind.i64 f, Value.int IntKind.i64 u], Value.int IntKind.i64 now, Value.tuple #[Value.agg #[Value.int IntKind.i64 qf, Value.int IntKind.i64 qh, Value.int IntKind.i64 qu], Value.bool bb], Value.agg #[Value.int IntKind.i64 qf, Value.int IntKind.i64 qh, Value.int IntKind.i64 qu], Value.bool bb, Value.tuple #[Value.agg #[Value.int IntKind.i64 qf, Value.int IntKind.i64 qh, Value.int IntKind.i64 qu], Value.bool bb], Value.agg #[Value.int IntKind.i64 xf, Value.int IntKind.i64 xh, Value.int IntKind.i64 xu], Value.agg #[Value.int IntKind.i64 h, Value.int IntKind.i64 f, Value.int IntKind.i64 u], Value.int IntKind.i64 now, Value.tuple #[Value.agg #[Value.int IntKind.i64 qf, Value.int IntKind.i64 qh, Value.int IntKind.i64 qu], Value.bool bb], Value.agg #[Value.int IntKind.i64 qf, Value.int IntKind.i64 qh, Value.int IntKind.i64 qu], Value.bool bb, vs 0, vs 1, vs 2, vs 3, vs 4, vs 5, vs 6, vs 7, vs 8, vs 9, vs 10, vs 11, vs 12, vs 13, vs 14, vs 15, vs 16, vs 17, vs 18, vs 19, vs 20, vs 21, vs 22, vs 23, vs 24, vs 25, vs 26, vs 27, vs 28, vs 29, vs 30, vs 31, vs 32, vs 33, vs 34, vs 35, vs 36, vs 37, vs 38, vs 39, vs 40, vs 41, vs 42, vs 43, vs 44], defers := [] } := ⟨_, rfl⟩
  have HLIT := Lib.hid hlit
  clear hlit
  obtain ⟨val, hval⟩ : ∃ val : List Value, val = [.bool true, .bool true, .int .i64 er, .int .i64 er, .bool true, .bool true, .bool true, r1, r2, .bool true, .bool true, .bool true, .agg #[.int .i64 eh, .int .i64 ef, .int .i64 eu], .agg #[.int .i64 eh, .int .i64 ef, .int .i64 eu], .bool true, .bool true, .bool true, .int .i64 pr, .int .i64 pr, .bool true, .bool true, .bool true, .agg #[.int .i64 ph, .int .i64 pf, .int .i64 pu], .agg #[.int .i64 ph, .int .i64 pf, .int .i64 pu], .bool true, .bool true, .bool true, .agg #[.int .i64 qf, .int .i64 qh, .int .i64 qu], .agg #[.int .i64 qf, .int .i64 qh, .int .i64 qu], .bool true, .bool true, .bool true, .bool bb, .bool bb, .bool true, .bool true, .bool true, .agg #[.int .i64 h, .int .i64 f, .int .i64 u], .int .i64 now, .bool ho, .agg #[.int .i64 h, .int .i64 f, .int .i64 u], .int .i64 now, .bool ho, .bool true, .bool true, .bool true] := ⟨_, rfl⟩
  have E0 := Lib.hid (show val.getD 0 undef = .bool true by rw [hval]; rfl)
  have E1 := Lib.hid (show val.getD 1 undef = .bool true by rw [hval]; rfl)
  have E2 := Lib.hid (show val.getD 2 undef = .int .i64 er by rw [hval]; rfl)
  have E3 := Lib.hid (show val.getD 3 undef = .int .i64 er by rw [hval]; rfl)
  have E4 := Lib.hid (show val.getD 4 undef = .bool true by rw [hval]; rfl)
  have E5 := Lib.hid (show val.getD 5 undef = .bool true by rw [hval]; rfl)
  have E6 := Lib.hid (show val.getD 6 undef = .bool true by rw [hval]; rfl)
  have E7 := Lib.hid (show val.getD 7 undef = r1 by rw [hval]; rfl)
  have E8 := Lib.hid (show val.getD 8 undef = r2 by rw [hval]; rfl)
  have E9 := Lib.hid (show val.getD 9 undef = .bool true by rw [hval]; rfl)
  have E10 := Lib.hid (show val.getD 10 undef = .bool true by rw [hval]; rfl)
  have E11 := Lib.hid (show val.getD 11 undef = .bool true by rw [hval]; rfl)
  have E12 := Lib.hid (show val.getD 12 undef = .agg #[.int .i64 eh, .int .i64 ef, .int .i64 eu] by rw [hval]; rfl)
  have E13 := Lib.hid (show val.getD 13 undef = .agg #[.int .i64 eh, .int .i64 ef, .int .i64 eu] by rw [hval]; rfl)
  have E14 := Lib.hid (show val.getD 14 undef = .bool true by rw [hval]; rfl)
  have E15 := Lib.hid (show val.getD 15 undef = .bool true by rw [hval]; rfl)
  have E16 := Lib.hid (show val.getD 16 undef = .bool true by rw [hval]; rfl)
  have E17 := Lib.hid (show val.getD 17 undef = .int .i64 pr by rw [hval]; rfl)
  have E18 := Lib.hid (show val.getD 18 undef = .int .i64 pr by rw [hval]; rfl)
  have E19 := Lib.hid (show val.getD 19 undef = .bool true by rw [hval]; rfl)
  have E20 := Lib.hid (show val.getD 20 undef = .bool true by rw [hval]; rfl)
  have E21 := Lib.hid (show val.getD 21 undef = .bool true by rw [hval]; rfl)
  have E22 := Lib.hid (show val.getD 22 undef = .agg #[.int .i64 ph, .int .i64 pf, .int .i64 pu] by rw [hval]; rfl)
  have E23 := Lib.hid (show val.getD 23 undef = .agg #[.int .i64 ph, .int .i64 pf, .int .i64 pu] by rw [hval]; rfl)
  have E24 := Lib.hid (show val.getD 24 undef = .bool true by rw [hval]; rfl)
  have E25 := Lib.hid (show val.getD 25 undef = .bool true by rw [hval]; rfl)
  have E26 := Lib.hid (show val.getD 26 undef = .bool true by rw [hval]; rfl)
  have E27 := Lib.hid (show val.getD 27 undef = .agg #[.int .i64 qf, .int .i64 qh, .int .i64 qu] by rw [hval]; rfl)
  have E28 := Lib.hid (show val.getD 28 undef = .agg #[.int .i64 qf, .int .i64 qh, .int .i64 qu] by rw [hval]; rfl)
  have E29 := Lib.hid (show val.getD 29 undef = .bool true by rw [hval]; rfl)
  have E30 := Lib.hid (show val.getD 30 undef = .bool true by rw [hval]; rfl)
  have E31 := Lib.hid (show val.getD 31 undef = .bool true by rw [hval]; rfl)
  have E32 := Lib.hid (show val.getD 32 undef = .bool bb by rw [hval]; rfl)
  have E33 := Lib.hid (show val.getD 33 undef = .bool bb by rw [hval]; rfl)
  have E34 := Lib.hid (show val.getD 34 undef = .bool true by rw [hval]; rfl)
  have E35 := Lib.hid (show val.getD 35 undef = .bool true by rw [hval]; rfl)
  have E36 := Lib.hid (show val.getD 36 undef = .bool true by rw [hval]; rfl)
  have E37 := Lib.hid (show val.getD 37 undef = .agg #[.int .i64 h, .int .i64 f, .int .i64 u] by rw [hval]; rfl)
  have E38 := Lib.hid (show val.getD 38 undef = .int .i64 now by rw [hval]; rfl)
  have E39 := Lib.hid (show val.getD 39 undef = .bool ho by rw [hval]; rfl)
  have E40 := Lib.hid (show val.getD 40 undef = .agg #[.int .i64 h, .int .i64 f, .int .i64 u] by rw [hval]; rfl)
  have E41 := Lib.hid (show val.getD 41 undef = .int .i64 now by rw [hval]; rfl)
  have E42 := Lib.hid (show val.getD 42 undef = .bool ho by rw [hval]; rfl)
  have E43 := Lib.hid (show val.getD 43 undef = .bool true by rw [hval]; rfl)
  have E44 := Lib.hid (show val.getD 44 undef = .bool true by rw [hval]; rfl)
  have E45 := Lib.hid (show val.getD 45 undef = .bool true by rw [hval]; rfl)
  clear hval
  refine region_inv (fun bf ac wv => ∃ vs : Nat → Value, ac = lit vs ∧ Below wq.heap.size wq wv ∧ ∀ i, bf i = true → vs i = val.getD i undef) (by kernel_rfl) (by decide +kernel) ?_ ?_ ?_
  · exact ⟨fun i => ([undef, undef, undef, undef, undef, undef, undef, undef, undef, undef, undef, undef, undef, undef, undef, undef, undef, undef, undef, undef, undef, undef, undef, undef, undef, undef, undef, undef, undef, undef, undef, undef, undef, undef, undef, undef, undef, undef, undef, undef, undef, undef, undef, undef, undef, Value.bool false] : List Value).getD i undef, (by rw [HLIT.out]; rfl), below_drew _ _, fun i h => by cases h⟩
  · refine ⟨?_, ?_, ?_, ?_, ?_, ?_, ?_, ?_, ?_, ?_, ?_, ?_, ?_, ?_, ?_, ?_, ?_, ?_, ?_, ?_, ?_, ?_, ?_, ?_, ?_, ?_, ?_, ?_, ?_, ?_, ?_, ?_, ?_, ?_, ?_, ?_, ?_, ?_, ?_, ?_, ?_, ?_, ?_, ?_, ?_, ?_, trivial⟩
    · intro bf ac wv hfb haf hJ K' hK
      obtain ⟨vs, rfl, hM, hG⟩ := hJ
      replace hK := Lib.hid hK
      replace hM := Lib.hid hM
      replace hG := Lib.hid hG
      clear haf
      clear hfb
      rw [HLIT.out]
      go_simp
      exact hK.out _ _ ⟨(upvM vs 0 (.bool true)), (by rw [HLIT.out]; rfl), hM.out, up_valM 0 hG.out E0.out⟩
    · intro bf ac wv hfb haf hJ K' hK
      obtain ⟨vs, rfl, hM, hG⟩ := hJ
      replace hK := Lib.hid hK
      replace hM := Lib.hid hM
      simp [Region.binds] at haf
      have e0 := (hG 0 (by simp [haf])).trans E0.out
      replace hG := Lib.hid hG
      clear haf
      clear hfb
      rw [HLIT.out]
      go_simp
      exact hK.out _ _ ⟨(upvM vs 1 (.bool true)), (by rw [HLIT.out]; simp only [upvM, e0, Nat.reduceBEq, cond_true, cond_false]), hM.out, up_valM 1 hG.out E1.out⟩
    · intro bf ac wv hfb haf hJ K' hK
      obtain ⟨vs, rfl, hM, hG⟩ := hJ
      replace hK := Lib.hid hK
      replace hM := Lib.hid hM
      simp [Region.binds] at haf
      have e1 := (hG 1 (by simp [haf])).trans E1.out
      replace hG := Lib.hid hG
      clear haf
      clear hfb
      rw [HLIT.out]
      go_simp
      exact hK.out _ _ ⟨(upvM vs 2 (.int .i64 er)), (by rw [HLIT.out]; simp only [upvM, e1, Nat.reduceBEq, cond_true, cond_false]), hM.out, up_valM 2 hG.out E2.out⟩
    · intro bf ac wv hfb haf hJ K' hK
      obtain ⟨vs, rfl, hM, hG⟩ := hJ
      replace hK := Lib.hid hK
      replace hM := Lib.hid hM
      simp [Region.binds] at haf
      have e1 := (hG 1 (by simp [haf])).trans E1.out
      replace hG := Lib.hid hG
      clear haf
      clear hfb
      rw [HLIT.out]
      go_simp
      exact hK.out _ _ ⟨(upvM vs 3 (.int .i64 er)), (by rw [HLIT.out]; simp only [upvM, e1, Nat.reduceBEq, cond_true, cond_false]), hM.out, up_valM 3 hG.out E3.out⟩
    · intro bf ac wv hfb haf hJ K' hK
      obtain ⟨vs, rfl, hM, hG⟩ := hJ
      replace hK := Lib.hid hK
      replace hM := Lib.hid hM
      simp [Region.binds] at haf
      have e1 := (hG 1 (by simp [haf])).trans E1.out
      have e2 := (hG 2 (by simp [haf])).trans E2.out
      have e3 := (hG 3 (by simp [haf])).trans E3.out
      replace hG := Lib.hid hG
      clear haf
      clear hfb
      rw [HLIT.out]
      go_simp
      exact hK.out _ _ ⟨(upvM vs 4 (.bool true)), (by rw [HLIT.out]; simp only [upvM, e1, e2, e3, Nat.reduceBEq, cond_true, cond_false]), hM.out, up_valM 4 hG.out E4.out⟩
    · intro bf ac wv hfb haf hJ K' hK
      obtain ⟨vs, rfl, hM, hG⟩ := hJ
      replace hK := Lib.hid hK
      replace hM := Lib.hid hM
      simp [Region.binds] at haf
      have e1 := (hG 1 (by simp [haf])).trans E1.out
      have e4 := (hG 4 (by simp [haf])).trans E4.out
      replace hG := Lib.hid hG
      clear haf
      clear hfb
      rw [HLIT.out]
      go_simp
      exact hK.out _ _ ⟨(upvM vs 5 (.bool true)), (by rw [HLIT.out]; simp only [upvM, e1, e4, Nat.reduceBEq, cond_true, cond_false]), hM.out, up_valM 5 hG.out E5.out⟩
    · intro bf ac wv hfb haf hJ K' hK
      obtain ⟨vs, rfl, hM, hG⟩ := hJ
      replace hK := Lib.hid hK
      replace hM := Lib.hid hM
      simp [Region.binds] at haf
      have e5 := (hG 5 (by simp [haf])).trans E5.out
      replace hG := Lib.hid hG
      clear haf
      clear hfb
      rw [HLIT.out]
      go_simp
      exact hK.out _ _ ⟨(upvM vs 6 (.bool true)), (by rw [HLIT.out]; simp only [upvM, e5, Nat.reduceBEq, cond_true, cond_false]), hM.out, up_valM 6 hG.out E6.out⟩
    · intro bf ac wv hfb haf hJ K' hK
      obtain ⟨vs, rfl, hM, hG⟩ := hJ
      replace hK := Lib.hid hK
      replace hM := Lib.hid hM
      simp [Region.binds] at haf
      have e6 := (hG 6 (by simp [haf])).trans E6.out
      replace hG := Lib.hid hG
      clear haf
      clear hfb
      rw [HLIT.out]
      go_simp
      exact hK.out _ _ ⟨(upvM vs 7 (r1)), (by rw [HLIT.out]; simp only [upvM, e6, Nat.reduceBEq, cond_true, cond_false]), hM.out, up_valM 7 hG.out E7.out⟩
    · intro bf ac wv hfb haf hJ K' hK
      obtain ⟨vs, rfl, hM, hG⟩ := hJ
      replace hK := Lib.hid hK
      replace hM := Lib.hid hM
      simp [Region.binds] at haf
      have e6 := (hG 6 (by simp [haf])).trans E6.out
      replace hG := Lib.hid hG
      clear haf
      clear hfb
      rw [HLIT.out]
      go_simp
      exact hK.out _ _ ⟨(upvM vs 8 (r2)), (by rw [HLIT.out]; simp only [upvM, e6, Nat.reduceBEq, cond_true, cond_false]), hM.out, up_valM 8 hG.out E8.out⟩
    · intro bf ac wv hfb haf hJ K' hK
      obtain ⟨vs, rfl, hM, hG⟩ := hJ
      replace hK := Lib.hid hK
      replace hM := Lib.hid hM
      simp [Region.binds] at haf
      have e6 := (hG 6 (by simp [haf])).trans E6.out
      have e7 := (hG 7 (by simp [haf])).trans E7.out
      have e8 := (hG 8 (by simp [haf])).trans E8.out
      replace hG := Lib.hid hG
      clear haf
      clear hfb
      rw [HLIT.out]
      go_simp
      go_at_call 16
      refine (same_self r1 r2 V _ (FR1_116.out.step hM.out) (FR2_118.out.step hM.out)).mono ?_
      rintro e w4 ⟨rfl, b4⟩
      exact hK.out _ _ ⟨(upvM vs 9 (.bool true)), (by rw [HLIT.out]; simp only [upvM, e6, e7, e8, Nat.reduceBEq, cond_true, cond_false]), (keep2 b4 hM.out), up_valM 9 hG.out E9.out⟩
    · intro bf ac wv hfb haf hJ K' hK
      obtain ⟨vs, rfl, hM, hG⟩ := hJ
      replace hK := Lib.hid hK
      replace hM := Lib.hid hM
      simp [Region.binds] at haf
      have e6 := (hG 6 (by simp [haf])).trans E6.out
      have e9 := (hG 9 (by simp [haf])).trans E9.out
      replace hG := Lib.hid hG
      clear haf
      clear hfb
      rw [HLIT.out]
      go_simp
      exact hK.out _ _ ⟨(upvM vs 10 (.bool true)), (by rw [HLIT.out]; simp only [upvM, e6, e9, Nat.reduceBEq, cond_true, cond_false]), hM.out, up_valM 10 hG.out E10.out⟩
    · intro bf ac wv hfb haf hJ K' hK
      obtain ⟨vs, rfl, hM, hG⟩ := hJ
      replace hK := Lib.hid hK
      replace hM := Lib.hid hM
      simp [Region.binds] at haf
      have e10 := (hG 10 (by simp [haf])).trans E10.out
      replace hG := Lib.hid hG
      clear haf
      clear hfb
      rw [HLIT.out]
      go_simp
      exact hK.out _ _ ⟨(upvM vs 11 (.bool true)), (by rw [HLIT.out]; simp only [upvM, e10, Nat.reduceBEq, cond_true, cond_false]), hM.out, up_valM 11 hG.out E11.out⟩
    · intro bf ac wv hfb haf hJ K' hK
      obtain ⟨vs, rfl, hM, hG⟩ := hJ
      replace hK := Lib.hid hK
      replace hM := Lib.hid hM
      simp [Region.binds] at haf
      have e11 := (hG 11 (by simp [haf])).trans E11.out
      replace hG := Lib.hid hG
      clear haf
      clear hfb
      rw [HLIT.out]
      have yA := FE1_117.out.step hM.out
      have yc0 := yA.c 0 rfl
      have yc1 := yA.c 1 rfl
      have yc2 := yA.c 2 rfl
      have ycz := yA.2.2
      clear yA
      go_simp
      exact hK.out _ _ ⟨(upvM vs 12 (.agg #[.int .i64 eh, .int .i64 ef, .int .i64 eu])), (by rw [HLIT.out]; simp only [upvM, e11, Nat.reduceBEq, cond_true, cond_false]), hM.out, up_valM 12 hG.out E12.out⟩
    · intro bf ac wv hfb haf hJ K' hK
      obtain ⟨vs, rfl, hM, hG⟩ := hJ
      replace hK := Lib.hid hK
      replace hM := Lib.hid hM
      simp [Region.binds] at haf
      have e11 := (hG 11 (by simp [haf])).trans E11.out
      replace hG := Lib.hid hG
      clear haf
      clear hfb
      rw [HLIT.out]
      have yA := FE2_119.out.step hM.out
      have yc0 := yA.c 0 rfl
      have yc1 := yA.c 1 rfl
      have yc2 := yA.c 2 rfl
      have ycz := yA.2.2
      clear yA
      go_simp
      exact hK.out _ _ ⟨(upvM vs 13 (.agg #[.int .i64 eh, .int .i64 ef, .int .i64 eu])), (by rw [HLIT.out]; simp only [upvM, e11, Nat.reduceBEq, cond_true, cond_false]), hM.out, up_valM 13 hG.out E13.out⟩
    · intro bf ac wv hfb haf hJ K' hK
      obtain ⟨vs, rfl, hM, hG⟩ := hJ
      replace hK := Lib.hid hK
      replace hM := Lib.hid hM
      simp [Region.binds] at haf
      have e11 := (hG 11 (by simp [haf])).trans E11.out
      have e12 := (hG 12 (by simp [haf])).trans E12.out
      have e13 := (hG 13 (by simp [haf])).trans E13.out
      replace hG := Lib.hid hG
      clear haf
      clear hfb
      rw [HLIT.out]
      go_simp
      exact hK.out _ _ ⟨(upvM vs 14 (.bool true)), (by rw [HLIT.out]; simp only [upvM, e11, e12, e13, Nat.reduceBEq, cond_true, cond_false]), hM.out, up_valM 14 hG.out E14.out⟩
    · intro bf ac wv hfb haf hJ K' hK
      obtain ⟨vs, rfl, hM, hG⟩ := hJ
      replace hK := Lib.hid hK
      replace hM := Lib.hid hM
      simp [Region.binds] at haf
      have e11 := (hG 11 (by simp [haf])).trans E11.out
      have e14 := (hG 14 (by simp [haf])).trans E14.out
      replace hG := Lib.hid hG
      clear haf
      clear hfb
      rw [HLIT.out]
      go_simp
      exact hK.out _ _ ⟨(upvM vs 15 (.bool true)), (by rw [HLIT.out]; simp only [upvM, e11, e14, Nat.reduceBEq, cond_true, cond_false]), hM.out, up_valM 15 hG.out E15.out⟩
    · intro bf ac wv hfb haf hJ K' hK
      obtain ⟨vs, rfl, hM, hG⟩ := hJ
      replace hK := Lib.hid hK
      replace hM := Lib.hid hM
      simp [Region.binds] at haf
      have e15 := (hG 15 (by simp [haf])).trans E15.out
      replace hG := Lib.hid hG
      clear haf
      clear hfb
      rw [HLIT.out]
      go_simp
      exact hK.out _ _ ⟨(upvM vs 16 (.bool true)), (by rw [HLIT.out]; simp only [upvM, e15, Nat.reduceBEq, cond_true, cond_false]), hM.out, up_valM 16 hG.out E16.out⟩
    · intro bf ac wv hfb haf hJ K' hK
      obtain ⟨vs, rfl, hM, hG⟩ := hJ
      replace hK := Lib.hid hK
      replace hM := Lib.hid hM
      simp [Region.binds] at haf
      have e16 := (hG 16 (by simp [haf])).trans E16.out
      replace hG := Lib.hid hG
      clear haf
      clear hfb
      rw [HLIT.out]
      go_simp
      exact hK.out _ _ ⟨(upvM vs 17 (.int .i64 pr)), (by rw [HLIT.out]; simp only [upvM, e16, Nat.reduceBEq, cond_true, cond_false]), hM.out, up_valM 17 hG.out E17.out⟩
    · intro bf ac wv hfb haf hJ K' hK
      obtain ⟨vs, rfl, hM, hG⟩ := hJ
      replace hK := Lib.hid hK
      replace hM := Lib.hid hM
      simp [Region.binds] at haf
      have e16 := (hG 16 (by simp [haf])).trans E16.out
      replace hG := Lib.hid hG
      clear haf
      clear hfb
      rw [HLIT.out]
      go_simp
      exact hK.out _ _ ⟨(upvM vs 18 (.int .i64 pr)), (by rw [HLIT.out]; simp only [upvM, e16, Nat.reduceBEq, cond_true, cond_false]), hM.out, up_valM 18 hG.out E18.out⟩
    · intro bf ac wv hfb haf hJ K' hK
      obtain ⟨vs, rfl, hM, hG⟩ := hJ
      replace hK := Lib.hid hK
      replace hM := Lib.hid hM
      simp [Region.binds] at haf
      have e16 := (hG 16 (by simp [haf])).trans E16.out
      have e17 := (hG 17 (by simp [haf])).trans E17.out
      have e18 := (hG 18 (by simp [haf])).trans E18.out
      replace hG := Lib.hid hG
      clear haf
      clear hfb
      rw [HLIT.out]
      go_simp
      exact hK.out _ _ ⟨(upvM vs 19 (.bool true)), (by rw [HLIT.out]; simp only [upvM, e16, e17, e18, Nat.reduceBEq, cond_true, cond_false]), hM.out, up_valM 19 hG.out E19.out⟩
    · intro bf ac wv hfb haf hJ K' hK
      obtain ⟨vs, rfl, hM, hG⟩ := hJ
      replace hK := Lib.hid hK
      replace hM := Lib.hid hM
      simp [Region.binds] at haf
      have e16 := (hG 16 (by simp [haf])).trans E16.out
      have e19 := (hG 19 (by simp [haf])).trans E19.out
      replace hG := Lib.hid hG
      clear haf
      clear hfb
      rw [HLIT.out]
      go_simp
      exact hK.out _ _ ⟨(upvM vs 20 (.bool true)), (by rw [HLIT.out]; simp only [upvM, e16, e19, Nat.reduceBEq, cond_true, cond_false]), hM.out, up_valM 20 hG.out E20.out⟩
    · intro bf ac wv hfb haf hJ K' hK
      obtain ⟨vs, rfl, hM, hG⟩ := hJ
      replace hK := Lib.hid hK
      replace hM := Lib.hid hM
      simp [Region.binds] at haf
      have e20 := (hG 20 (by simp [haf])).trans E20.out
      replace hG := Lib.hid hG
      clear haf
      clear hfb
      rw [HLIT.out]
      go_simp
      exact hK.out _ _ ⟨(upvM vs 21 (.bool true)), (by rw [HLIT.out]; simp only [upvM, e20, Nat.reduceBEq, cond_true, cond_false]), hM.out, up_valM 21 hG.out E21.out⟩
    · intro bf ac wv hfb haf hJ K' hK
      obtain ⟨vs, rfl, hM, hG⟩ := hJ
      replace hK := Lib.hid hK
      replace hM := Lib.hid hM
      simp [Region.binds] at haf
      have e21 := (hG 21 (by simp [haf])).trans E21.out
      replace hG := Lib.hid hG
      clear haf
      clear hfb
      rw [HLIT.out]
      have yA := FP1_120.out.step hM.out
      have yc0 := yA.c 0 rfl
      have yc1 := yA.c 1 rfl
      have yc2 := yA.c 2 rfl
      have ycz := yA.2.2
      clear yA
      go_simp
      exact hK.out _ _ ⟨(upvM vs 22 (.agg #[.int .i64 ph, .int .i64 pf, .int .i64 pu])), (by rw [HLIT.out]; simp only [upvM, e21, Nat.reduceBEq, cond_true, cond_false]), hM.out, up_valM 22 hG.out E22.out⟩
    · intro bf ac wv hfb haf hJ K' hK
      obtain ⟨vs, rfl, hM, hG⟩ := hJ
      replace hK := Lib.hid hK
      replace hM := Lib.hid hM
      simp [Region.binds] at haf
      have e21 := (hG 21 (by simp [haf])).trans E21.out
      replace hG := Lib.hid hG
      clear haf
      clear hfb
      rw [HLIT.out]
      have yA := FP2_121.out.step hM.out
      have yc0 := yA.c 0 rfl
      have yc1 := yA.c 1 rfl
      have yc2 := yA.c 2 rfl
      have ycz := yA.2.2
      clear yA
      go_simp
      exact hK.out _ _ ⟨(upvM vs 23 (.agg #[.int .i64 ph, .int .i64 pf, .int .i64 pu])), (by rw [HLIT.out]; simp only [upvM, e21, Nat.reduceBEq, cond_true, cond_false]), hM.out, up_valM 23 hG.out E23.out⟩
    · intro bf ac wv hfb haf hJ K' hK
      obtain ⟨vs, rfl, hM, hG⟩ := hJ
      replace hK := Lib.hid hK
      replace hM := Lib.hid hM
      simp [Region.binds] at haf
      have e21 := (hG 21 (by simp [haf])).trans E21.out
      have e22 := (hG 22 (by simp [haf])).trans E22.out
      have e23 := (hG 23 (by simp [haf])).trans E23.out
      replace hG := Lib.hid hG
      clear haf
      clear hfb
      rw [HLIT.out]
      go_simp
      exact hK.out _ _ ⟨(upvM vs 24 (.bool true)), (by rw [HLIT.out]; simp only [upvM, e21, e22, e23, Nat.reduceBEq, cond_true, cond_false]), hM.out, up_valM 24 hG.out E24.out⟩
    · intro bf ac wv hfb haf hJ K' hK
      obtain ⟨vs, rfl, hM, hG⟩ := hJ
      replace hK := Lib.hid hK
      replace hM := Lib.hid hM
      simp [Region.binds] at haf
      have e21 := (hG 21 (by simp [haf])).trans E21.out
      have e24 := (hG 24 (by simp [haf])).trans E24.out
      replace hG := Lib.hid hG
      clear haf
      clear hfb
      rw [HLIT.out]
      go_simp
      exact hK.out _ _ ⟨(upvM vs 25 (.bool true)), (by rw [HLIT.out]; simp only [upvM, e21, e24, Nat.reduceBEq, cond_true, cond_false]), hM.out, up_valM 25 hG.out E25.out⟩
    · intro bf ac wv hfb haf hJ K' hK
      obtain ⟨vs, rfl, hM, hG⟩ := hJ
      replace hK := Lib.hid hK
      replace hM := Lib.hid hM
      simp [Region.binds] at haf
      have e25 := (hG 25 (by simp [haf])).trans E25.out
      replace hG := Lib.hid hG
      clear haf
      clear hfb
      rw [HLIT.out]
      go_simp
      exact hK.out _ _ ⟨(upvM vs 26 (.bool true)), (by rw [HLIT.out]; simp only [upvM, e25, Nat.reduceBEq, cond_true, cond_false]), hM.out, up_valM 26 hG.out E26.out⟩
    · intro bf ac wv hfb haf hJ K' hK
      obtain ⟨vs, rfl, hM, hG⟩ := hJ
      replace hK := Lib.hid hK
      replace hM := Lib.hid hM
      simp [Region.binds] at haf
      have e26 := (hG 26 (by simp [haf])).trans E26.out
      replace hG := Lib.hid hG
      clear haf
      clear hfb
      rw [HLIT.out]
      have yA := FW1_122.out.step hM.out
      have yc0 := yA.c 0 rfl
      have yc1 := yA.c 1 rfl
      have yc2 := yA.c 2 rfl
      have ycz := yA.2.2
      clear yA
      go_simp
      exact hK.out _ _ ⟨(upvM vs 27 (.agg #[.int .i64 qf, .int .i64 qh, .int .i64 qu])), (by rw [HLIT.out]; simp only [upvM, e26, Nat.reduceBEq, cond_true, cond_false]), hM.out, up_valM 27 hG.out E27.out⟩
    · intro bf ac wv hfb haf hJ K' hK
      obtain ⟨vs, rfl, hM, hG⟩ := hJ
      replace hK := Lib.hid hK
      replace hM := Lib.hid hM
      simp [Region.binds] at haf
      have e26 := (hG 26 (by simp [haf])).trans E26.out
      replace hG := Lib.hid hG
      clear haf
      clear hfb
      rw [HLIT.out]
      have yA := FW2_123.out.step hM.out
      have yc0 := yA.c 0 rfl
      have yc1 := yA.c 1 rfl
      have yc2 := yA.c 2 rfl
      have ycz := yA.2.2
      clear yA
      go_simp
      exact hK.out _ _ ⟨(upvM vs 28 (.agg #[.int .i64 qf, .int .i64 qh, .int .i64 qu])), (by rw [HLIT.out]; simp only [upvM, e26, Nat.reduceBEq, cond_true, cond_false]), hM.out, up_valM 28 hG.out E28.out⟩
    · intro bf ac wv hfb haf hJ K' hK
      obtain ⟨vs, rfl, hM, hG⟩ := hJ
      replace hK := Lib.hid hK
      replace hM := Lib.hid hM
      simp [Region.binds] at haf
      have e26 := (hG 26 (by simp [haf])).trans E26.out
      have e27 := (hG 27 (by simp [haf])).trans E27.out
      have e28 := (hG 28 (by simp [haf])).trans E28.out
      replace hG := Lib.hid hG
      clear haf
      clear hfb
      rw [HLIT.out]
      go_simp
      exact hK.out _ _ ⟨(upvM vs 29 (.bool true)), (by rw [HLIT.out]; simp only [upvM, e26, e27, e28, Nat.reduceBEq, cond_true, cond_false]), hM.out, up_valM 29 hG.out E29.out⟩
    · intro bf ac wv hfb haf hJ K' hK
      obtain ⟨vs, rfl, hM, hG⟩ := hJ
      replace hK := Lib.hid hK
      replace hM := Lib.hid hM
      simp [Region.binds] at haf
      have e26 := (hG 26 (by simp [haf])).trans E26.out
      have e29 := (hG 29 (by simp [haf])).trans E29.out
      replace hG := Lib.hid hG
      clear haf
      clear hfb
      rw [HLIT.out]
      go_simp
      exact hK.out _ _ ⟨(upvM vs 30 (.bool true)), (by rw [HLIT.out]; simp only [upvM, e26, e29, Nat.reduceBEq, cond_true, cond_false]), hM.out, up_valM 30 hG.out E30.out⟩
    · intro bf ac wv hfb haf hJ K' hK
      obtain ⟨vs, rfl, hM, hG⟩ := hJ
      replace hK := Lib.hid hK
      replace hM := Lib.hid hM
      simp [Region.binds] at haf
      have e30 := (hG 30 (by simp [haf])).trans E30.out
      replace hG := Lib.hid hG
      clear haf
      clear hfb
      rw [HLIT.out]
      go_simp
      exact hK.out _ _ ⟨(upvM vs 31 (.bool true)), (by rw [HLIT.out]; simp only [upvM, e30, Nat.reduceBEq, cond_true, cond_false]), hM.out, up_valM 31 hG.out E31.out⟩
    · intro bf ac wv hfb haf hJ K' hK
      obtain ⟨vs, rfl, hM, hG⟩ := hJ
      replace hK := Lib.hid hK
      replace hM := Lib.hid hM
      simp [Region.binds] at haf
      have e31 := (hG 31 (by simp [haf])).trans E31.out
      replace hG := Lib.hid hG
      clear haf
      clear hfb
      rw [HLIT.out]
      go_simp
      exact hK.out _ _ ⟨(upvM vs 32 (.bool bb)), (by rw [HLIT.out]; simp only [upvM, e31, Nat.reduceBEq, cond_true, cond_false]), hM.out, up_valM 32 hG.out E32.out⟩
    · intro bf ac wv hfb haf hJ K' hK
      obtain ⟨vs, rfl, hM, hG⟩ := hJ
      replace hK := Lib.hid hK
      replace hM := Lib.hid hM
      simp [Region.binds] at haf
      have e31 := (hG 31 (by simp [haf])).trans E31.out
      replace hG := Lib.hid hG
      clear haf
      clear hfb
      rw [HLIT.out]
      go_simp
      exact hK.out _ _ ⟨(upvM vs 33 (.bool bb)), (by rw [HLIT.out]; simp only [upvM, e31, Nat.reduceBEq, cond_true, cond_false]), hM.out, up_valM 33 hG.out E33.out⟩
    · intro bf ac wv hfb haf hJ K' hK
      obtain ⟨vs, rfl, hM, hG⟩ := hJ
      replace hK := Lib.hid hK
      replace hM := Lib.hid hM
      simp [Region.binds] at haf
      have e31 := (hG 31 (by simp [haf])).trans E31.out
      have e32 := (hG 32 (by simp [haf])).trans E32.out
      have e33 := (hG 33 (by simp [haf])).trans E33.out
      replace hG := Lib.hid hG
      clear haf
      clear hfb
      rw [HLIT.out]
      go_simp
      exact hK.out _ _ ⟨(upvM vs 34 (.bool true)), (by rw [HLIT.out]; simp only [upvM, e31, e32, e33, Nat.reduceBEq, cond_true, cond_false]), hM.out, up_valM 34 hG.out E34.out⟩
    · intro bf ac wv hfb haf hJ K' hK
      obtain ⟨vs, rfl, hM, hG⟩ := hJ
      replace hK := Lib.hid hK
      replace hM := Lib.hid hM
      simp [Region.binds] at haf
      have e31 := (hG 31 (by simp [haf])).trans E31.out
      have e34 := (hG 34 (by simp [haf])).trans E34.out
      replace hG := Lib.hid hG
      clear haf
      clear hfb
      rw [HLIT.out]
      go_simp
      exact hK.out _ _ ⟨(upvM vs 35 (.bool true)), (by rw [HLIT.out]; simp only [upvM, e31, e34, Nat.reduceBEq, cond_true, cond_false]), hM.out, up_valM 35 hG.out E35.out⟩
    · intro bf ac wv hfb haf hJ K' hK
      obtain ⟨vs, rfl, hM, hG⟩ := hJ
      replace hK := Lib.hid hK
      replace hM := Lib.hid hM
      simp [Region.binds] at haf
      have e35 := (hG 35 (by simp [haf])).trans E35.out
      replace hG := Lib.hid hG
      clear haf
      clear hfb
      rw [HLIT.out]
      go_simp
      exact hK.out _ _ ⟨(upvM vs 36 (.bool true)), (by rw [HLIT.out]; simp only [upvM, e35, Nat.reduceBEq, cond_true, cond_false]), hM.out, up_valM 36 hG.out E36.out⟩
    · intro bf ac wv hfb haf hJ K' hK
      obtain ⟨vs, rfl, hM, hG⟩ := hJ
      replace hK := Lib.hid hK
      replace hM := Lib.hid hM
      simp [Region.binds] at haf
      have e36 := (hG 36 (by simp [haf])).trans E36.out
      replace hG := Lib.hid hG
      clear haf
      clear hfb
      rw [HLIT.out]
      have yA := FXB_115.out.step hM.out
      have yc0 := yA.c 0 rfl
      have yc1 := yA.c 1 rfl
      have yc2 := yA.c 2 rfl
      have ycz := yA.2.2
      clear yA
      go_simp
      exact hK.out _ _ ⟨(upvM vs 37 (.agg #[.int .i64 h, .int .i64 f, .int .i64 u])), (by rw [HLIT.out]; simp only [upvM, e36, Nat.reduceBEq, cond_true, cond_false]), hM.out, up_valM 37 hG.out E37.out⟩
    · intro bf ac wv hfb haf hJ K' hK
      obtain ⟨vs, rfl, hM, hG⟩ := hJ
      replace hK := Lib.hid hK
      replace hM := Lib.hid hM
      simp [Region.binds] at haf
      have e36 := (hG 36 (by simp [haf])).trans E36.out
      replace hG := Lib.hid hG
      clear haf
      clear hfb
      rw [HLIT.out]
      go_simp
      exact hK.out _ _ ⟨(upvM vs 38 (.int .i64 now)), (by rw [HLIT.out]; simp only [upvM, e36, Nat.reduceBEq, cond_true, cond_false]), hM.out, up_valM 38 hG.out E38.out⟩
    · intro bf ac wv hfb haf hJ K' hK
      obtain ⟨vs, rfl, hM, hG⟩ := hJ
      replace hK := Lib.hid hK
      replace hM := Lib.hid hM
      simp [Region.binds] at haf
      have e36 := (hG 36 (by simp [haf])).trans E36.out
      have e37 := (hG 37 (by simp [haf])).trans E37.out
      have e38 := (hG 38 (by simp [haf])).trans E38.out
      replace hG := Lib.hid hG
      clear haf
      clear hfb
      rw [HLIT.out]
      go_simp
      go_at_call 17
      refine (HH1.out _).mono ?_
      rintro e w4 ⟨rfl, b4⟩
      exact hK.out _ _ ⟨(upvM vs 39 (.bool ho)), (by rw [HLIT.out]; simp only [upvM, e36, e37, e38, Nat.reduceBEq, cond_true, cond_false]), (keep2 b4 hM.out), up_valM 39 hG.out E39.out⟩
    · intro bf ac wv hfb haf hJ K' hK
      obtain ⟨vs, rfl, hM, hG⟩ := hJ
      replace hK := Lib.hid hK
      replace hM := Lib.hid hM
      simp [Region.binds] at haf
      have e36 := (hG 36 (by simp [haf])).trans E36.out
      replace hG := Lib.hid hG
      clear haf
      clear hfb
      rw [HLIT.out]
      have yA := FXB_115.out.step hM.out
      have yc0 := yA.c 0 rfl
      have yc1 := yA.c 1 rfl
      have yc2 := yA.c 2 rfl
      have ycz := yA.2.2
      clear yA
      go_simp
      exact hK.out _ _ ⟨(upvM vs 40 (.agg #[.int .i64 h, .int .i64 f, .int .i64 u])), (by rw [HLIT.out]; simp only [upvM, e36, Nat.reduceBEq, cond_true, cond_false]), hM.out, up_valM 40 hG.out E40.out⟩
    · intro bf ac wv hfb haf hJ K' hK
      obtain ⟨vs, rfl, hM, hG⟩ := hJ
      replace hK := Lib.hid hK
      replace hM := Lib.hid hM
      simp [Region.binds] at haf
      have e36 := (hG 36 (by simp [haf])).trans E36.out
      replace hG := Lib.hid hG
      clear haf
      clear hfb
      rw [HLIT.out]
      go_simp
      exact hK.out _ _ ⟨(upvM vs 41 (.int .i64 now)), (by rw [HLIT.out]; simp only [upvM, e36, Nat.reduceBEq, cond_true, cond_false]), hM.out, up_valM 41 hG.out E41.out⟩
    · intro bf ac wv hfb haf hJ K' hK
      obtain ⟨vs, rfl, hM, hG⟩ := hJ
      replace hK := Lib.hid hK
      replace hM := Lib.hid hM
      simp [Region.binds] at haf
      have e36 := (hG 36 (by simp [haf])).trans E36.out
      have e40 := (hG 40 (by simp [haf])).trans E40.out
      have e41 := (hG 41 (by simp [haf])).trans E41.out
      replace hG := Lib.hid hG
      clear haf
      clear hfb
      rw [HLIT.out]
      go_simp
      go_at_call 18
      refine (HH2.out _).mono ?_
      rintro e w4 ⟨rfl, b4⟩
      exact hK.out _ _ ⟨(upvM vs 42 (.bool ho)), (by rw [HLIT.out]; simp only [upvM, e36, e40, e41, Nat.reduceBEq, cond_true, cond_false]), (keep2 b4 hM.out), up_valM 42 hG.out E42.out⟩
    · intro bf ac wv hfb haf hJ K' hK
      obtain ⟨vs, rfl, hM, hG⟩ := hJ
      replace hK := Lib.hid hK
      replace hM := Lib.hid hM
      simp [Region.binds] at haf
      have e36 := (hG 36 (by simp [haf])).trans E36.out
      have e39 := (hG 39 (by simp [haf])).trans E39.out
      have e42 := (hG 42 (by simp [haf])).trans E42.out
      replace hG := Lib.hid hG
      clear haf
      clear hfb
      rw [HLIT.out]
      go_simp
      exact hK.out _ _ ⟨(upvM vs 43 (.bool true)), (by rw [HLIT.out]; simp only [upvM, e36, e39, e42, Nat.reduceBEq, cond_true, cond_false]), hM.out, up_valM 43 hG.out E43.out⟩
    · intro bf ac wv hfb haf hJ K' hK
      obtain ⟨vs, rfl, hM, hG⟩ := hJ
      replace hK := Lib.hid hK
      replace hM := Lib.hid hM
      simp [Region.binds] at haf
      have e36 := (hG 36 (by simp [haf])).trans E36.out
      have e43 := (hG 43 (by simp [haf])).trans E43.out
      replace hG := Lib.hid hG
      clear haf
      clear hfb
      rw [HLIT.out]
      go_simp
      exact hK.out _ _ ⟨(upvM vs 44 (.bool true)), (by rw [HLIT.out]; simp only [upvM, e36, e43, Nat.reduceBEq, cond_true, cond_false]), hM.out, up_valM 44 hG.out E44.out⟩
    · intro bf ac wv hfb haf hJ K' hK
      obtain ⟨vs, rfl, hM, hG⟩ := hJ
      replace hK := Lib.hid hK
      replace hM := Lib.hid hM
      simp [Region.binds] at haf
      have e44 := (hG 44 (by simp [haf])).trans E44.out
      replace hG := Lib.hid hG
      clear haf
      clear hfb
      rw [HLIT.out]
      go_simp
      exact hK.out _ _ ⟨(upvM vs 45 (.bool true)), (by rw [HLIT.out]; simp only [upvM, e44, Nat.reduceBEq, cond_true, cond_false]), hM.out, up_valM 45 hG.out E45.out⟩
  · intro bf ac wv hall hJ
    obtain ⟨vs, rfl, hM, hG⟩ := hJ
    have e45 := (hG 45 (hall 45 (by decide))).trans E45.out
    have HB9 := Lib.hid (keep2 hM HB124.out)
    clear hM hall hG
    rw [HLIT.out]
    go_wp2
    go_ret
    exact ⟨by first | rfl | simp [e45], HB9.out⟩
theorem match_any (v : Value) (L : List Vo) (va : Value) (A : List Bool) (hub now len : Int) (x : Vo) (h f u : Int) (w : World) (hl : VosAt w v L) (ha : BosAt w va A) :
    Calls Try.prog 3 #[v, va, .int .i64 hub, .int .i64 now, .int .i64 len, .agg #[.int .i64 x.f, .int .i64 x.h, .int .i64 x.u], .agg #[.int .i64 h, .int .i64 f, .int .i64 u]] w fun e w' => e = .returned (.bool true) ∧ Below w.heap.size w w' := by
  by_cases hs : L.length ≤ 5 ∧ A.length ≤ 5
  · exact match_in v va L A hub now len x h f u w hl ha hs
  · exact match_out v va L A hub now len x h f u w hl ha hs
end Go.Proofs.Ytelohejnbfefoaa
