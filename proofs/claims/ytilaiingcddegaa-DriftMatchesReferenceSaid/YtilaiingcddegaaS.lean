/- The walk of DriftMatchesReference. -/
import Derived.Test.YtilaiingcddegaaL
import Derived.Deep.RegionHeld3
namespace Go.Proofs.Ytilaiingcddegaa
open Go.RowKit

theorem rsince_at (s d x y z : Int) (w : World) (h : sLo s d = x ∧ sHi s d = y ∧ sEr s d = z) : Calls Try.prog 11 #[.int .i64 s, .int .i64 d] w (SpanPost x y z w) := by
  have := rsince_any s d w; rwa [h.1, h.2.1, h.2.2] at this
theorem rnow_at (l h s d x y z : Int) (w : World) (hh : nLo l h s d = x ∧ nHi l h s d = y ∧ nEr l h s d = z) : Calls Try.prog 13 #[.agg #[.int .i64 l, .int .i64 h], .int .i64 s, .int .i64 d] w (SpanPost x y z w) := by
  have := rnow_any l h s d w; rwa [hh.1, hh.2.1, hh.2.2] at this
theorem rmeet_at (a b c d x y : Int) (z : Bool) (w : World) (h : mLo a b c d = x ∧ mHi a b c d = y ∧ mOk a b c d = z) : Calls Try.prog 15 #[.agg #[.int .i64 a, .int .i64 b], .agg #[.int .i64 c, .int .i64 d]] w (MeetPost x y z w) := by
  have := rmeet_any a b c d w; rwa [h.1, h.2.1, h.2.2] at this
theorem rbefore_at (a b c d : Int) (v : Bool) (w : World) (h : bF a b c d = v) : Calls Try.prog 17 #[.agg #[.int .i64 a, .int .i64 b], .agg #[.int .i64 c, .int .i64 d]] w fun e w' => e = .returned (.bool v) ∧ Below w.heap.size w w' := by
  have := rbefore_any a b c d w; rwa [h] at this
theorem eqI_self (l : List Int) : eqI l l = true := by unfold eqI; simp
theorem IntsAt.low {w w' : World} {v : Value} {l : List Int} (h : IntsAt w v l) (hb : Below w.heap.size w w') : Hid (IntsAt w' v l) := h.step hb
set_option maxRecDepth 100000 in
set_option maxHeartbeats 32000000 in
theorem match_walk (a b c d s r : Int) (v : Value) (l : List Int) (w : World) (hl : IntsAt w v l) : Calls Try.prog 3 #[.agg #[.int .i64 a, .int .i64 b], .agg #[.int .i64 c, .int .i64 d], .int .i64 s, .int .i64 r, v] w fun e w' => e = .returned (.bool true) ∧ Below w.heap.size w w' := by
  obtain ⟨x1, y1, e1, hn1⟩ : ∃ x y z, sLo s r = x ∧ sHi s r = y ∧ sEr s r = z := ⟨_, _, _, rfl, rfl, rfl⟩
  obtain ⟨x2, y2, e2, hn2⟩ : ∃ x y z, nLo a b s r = x ∧ nHi a b s r = y ∧ nEr a b s r = z := ⟨_, _, _, rfl, rfl, rfl⟩
  obtain ⟨x3, y3, e3, hn3⟩ : ∃ x y z, mLo a b c d = x ∧ mHi a b c d = y ∧ mOk a b c d = z := ⟨_, _, _, rfl, rfl, rfl⟩
  obtain ⟨z4, hz4⟩ : ∃ z, bF a b c d = z := ⟨_, rfl⟩
  have HN1 := Lib.hid hn1
  have HN2 := Lib.hid hn2
  have HN3 := Lib.hid hn3
  have HZ4 := Lib.hid hz4
  have HL := Lib.hid hl
  obtain ⟨la, lc, rfl, hm, -⟩ := hl
  unfold maxLen at hm
  clear hn1 hn2 hn3 hz4
  have HB0 := Lib.hid (Below.refl w.heap.size w)
  go_enter Try.func3, Try.ntmps3
  have KA_1 := Lib.hid (TwoAt.new w (w.heap.size) (a) (b) 23 (by simp))
  have HB2 : Hid (Below w.heap.size w (w.alloc (.cells #[.int .i64 a, .int .i64 b] 23))) := HB0.out.alloc HB0.out.size _
  clear HB0
  have KA_3 := Lib.hid (KA_1.out.alloc (.cells #[.int .i64 c, .int .i64 d] 23))
  clear KA_1
  have KB_4 := Lib.hid (TwoAt.new (w.alloc (.cells #[.int .i64 a, .int .i64 b] 23)) (w.heap.size + 1) (c) (d) 23 (by simp))
  have HB5 : Hid (Below w.heap.size w ((w.alloc (.cells #[.int .i64 a, .int .i64 b] 23)).alloc (.cells #[.int .i64 c, .int .i64 d] 23))) := HB2.out.alloc HB2.out.size _
  clear HB2
  go_wp2_with fail
  refine (head_any _).mono ?_
  rintro e u1 ⟨rfl, b1⟩
  have KA_6 := Lib.hid (KA_3.out.step b1)
  clear KA_3
  have KB_7 := Lib.hid (KB_4.out.step b1)
  clear KB_4
  have HB8 := Lib.hid (keep2 b1 HB5.out)
  clear HB5 b1
  by_cases h500 : l.length ≤ 500
  · have q5 : decide (500 < (l.length : Int)) = false := by simp; omega
    obtain ⟨⟨xA, yA⟩, zA⟩ := KA_6.out
    obtain ⟨⟨xB, yB⟩, zB⟩ := KB_7.out
    go_wp2_with fail
    refine (since_at s r x1 y1 e1 _ HN1.out).mono ?_
    rintro e u2 ⟨rfl, b2⟩
    clear xA yA zA xB yB zB
    have KA_9 := Lib.hid (KA_6.out.step b2)
    clear KA_6
    have KB_10 := Lib.hid (KB_7.out.step b2)
    clear KB_7
    have HB11 := Lib.hid (keep2 b2 HB8.out)
    clear HB8 b2
    have KA_12 := Lib.hid (KA_9.out.alloc (.cells #[.int .i64 x1, .int .i64 y1] 23))
    clear KA_9
    have KB_13 := Lib.hid (KB_10.out.alloc (.cells #[.int .i64 x1, .int .i64 y1] 23))
    clear KB_10
    have KP_14 := Lib.hid (TwoAt.new u2 (u2.heap.size) (x1) (y1) 23 (by simp))
    have HB15 : Hid (Below w.heap.size w (u2.alloc (.cells #[.int .i64 x1, .int .i64 y1] 23))) := HB11.out.alloc HB11.out.size _
    clear HB11
    go_wp2_with fail
    refine (rsince_at s r x1 y1 e1 _ HN1.out).mono ?_
    rintro e u3 ⟨rfl, b3⟩
    have KA_16 := Lib.hid (KA_12.out.step b3)
    clear KA_12
    have KB_17 := Lib.hid (KB_13.out.step b3)
    clear KB_13
    have KP_18 := Lib.hid (KP_14.out.step b3)
    clear KP_14
    have HB19 := Lib.hid (keep2 b3 HB15.out)
    clear HB15 b3
    have KA_20 := Lib.hid (KA_16.out.alloc (.cells #[.int .i64 x1, .int .i64 y1] 23))
    clear KA_16
    have KB_21 := Lib.hid (KB_17.out.alloc (.cells #[.int .i64 x1, .int .i64 y1] 23))
    clear KB_17
    have KP_22 := Lib.hid (KP_18.out.alloc (.cells #[.int .i64 x1, .int .i64 y1] 23))
    clear KP_18
    have KQ_23 := Lib.hid (TwoAt.new u3 (u3.heap.size) (x1) (y1) 23 (by simp))
    have HB24 : Hid (Below w.heap.size w (u3.alloc (.cells #[.int .i64 x1, .int .i64 y1] 23))) := HB19.out.alloc HB19.out.size _
    clear HB19
    obtain ⟨⟨xA, yA⟩, zA⟩ := KA_20.out
    go_wp2_with fail
    refine (now_at a b s r x2 y2 e2 _ HN2.out).mono ?_
    rintro e u4 ⟨rfl, b4⟩
    clear xA yA zA
    have KA_25 := Lib.hid (KA_20.out.step b4)
    clear KA_20
    have KB_26 := Lib.hid (KB_21.out.step b4)
    clear KB_21
    have KP_27 := Lib.hid (KP_22.out.step b4)
    clear KP_22
    have KQ_28 := Lib.hid (KQ_23.out.step b4)
    clear KQ_23
    have HB29 := Lib.hid (keep2 b4 HB24.out)
    clear HB24 b4
    have KA_30 := Lib.hid (KA_25.out.alloc (.cells #[.int .i64 x2, .int .i64 y2] 23))
    clear KA_25
    have KB_31 := Lib.hid (KB_26.out.alloc (.cells #[.int .i64 x2, .int .i64 y2] 23))
    clear KB_26
    have KP_32 := Lib.hid (KP_27.out.alloc (.cells #[.int .i64 x2, .int .i64 y2] 23))
    clear KP_27
    have KQ_33 := Lib.hid (KQ_28.out.alloc (.cells #[.int .i64 x2, .int .i64 y2] 23))
    clear KQ_28
    have KR_34 := Lib.hid (TwoAt.new u4 (u4.heap.size) (x2) (y2) 23 (by simp))
    have HB35 : Hid (Below w.heap.size w (u4.alloc (.cells #[.int .i64 x2, .int .i64 y2] 23))) := HB29.out.alloc HB29.out.size _
    clear HB29
    obtain ⟨⟨xA, yA⟩, zA⟩ := KA_30.out
    go_wp2_with fail
    refine (rnow_at a b s r x2 y2 e2 _ HN2.out).mono ?_
    rintro e u5 ⟨rfl, b5⟩
    clear xA yA zA
    have KA_36 := Lib.hid (KA_30.out.step b5)
    clear KA_30
    have KB_37 := Lib.hid (KB_31.out.step b5)
    clear KB_31
    have KP_38 := Lib.hid (KP_32.out.step b5)
    clear KP_32
    have KQ_39 := Lib.hid (KQ_33.out.step b5)
    clear KQ_33
    have KR_40 := Lib.hid (KR_34.out.step b5)
    clear KR_34
    have HB41 := Lib.hid (keep2 b5 HB35.out)
    clear HB35 b5
    have KA_42 := Lib.hid (KA_36.out.alloc (.cells #[.int .i64 x2, .int .i64 y2] 23))
    clear KA_36
    have KB_43 := Lib.hid (KB_37.out.alloc (.cells #[.int .i64 x2, .int .i64 y2] 23))
    clear KB_37
    have KP_44 := Lib.hid (KP_38.out.alloc (.cells #[.int .i64 x2, .int .i64 y2] 23))
    clear KP_38
    have KQ_45 := Lib.hid (KQ_39.out.alloc (.cells #[.int .i64 x2, .int .i64 y2] 23))
    clear KQ_39
    have KR_46 := Lib.hid (KR_40.out.alloc (.cells #[.int .i64 x2, .int .i64 y2] 23))
    clear KR_40
    have KS_47 := Lib.hid (TwoAt.new u5 (u5.heap.size) (x2) (y2) 23 (by simp))
    have HB48 : Hid (Below w.heap.size w (u5.alloc (.cells #[.int .i64 x2, .int .i64 y2] 23))) := HB41.out.alloc HB41.out.size _
    clear HB41
    obtain ⟨⟨xA, yA⟩, zA⟩ := KA_42.out
    obtain ⟨⟨xB, yB⟩, zB⟩ := KB_43.out
    go_wp2_with fail
    refine (meet_at a b c d x3 y3 e3 _ HN3.out).mono ?_
    rintro e u6 ⟨rfl, b6⟩
    clear xA yA zA xB yB zB
    have KA_49 := Lib.hid (KA_42.out.step b6)
    clear KA_42
    have KB_50 := Lib.hid (KB_43.out.step b6)
    clear KB_43
    have KP_51 := Lib.hid (KP_44.out.step b6)
    clear KP_44
    have KQ_52 := Lib.hid (KQ_45.out.step b6)
    clear KQ_45
    have KR_53 := Lib.hid (KR_46.out.step b6)
    clear KR_46
    have KS_54 := Lib.hid (KS_47.out.step b6)
    clear KS_47
    have HB55 := Lib.hid (keep2 b6 HB48.out)
    clear HB48 b6
    have KA_56 := Lib.hid (KA_49.out.alloc (.cells #[.int .i64 x3, .int .i64 y3] 23))
    clear KA_49
    have KB_57 := Lib.hid (KB_50.out.alloc (.cells #[.int .i64 x3, .int .i64 y3] 23))
    clear KB_50
    have KP_58 := Lib.hid (KP_51.out.alloc (.cells #[.int .i64 x3, .int .i64 y3] 23))
    clear KP_51
    have KQ_59 := Lib.hid (KQ_52.out.alloc (.cells #[.int .i64 x3, .int .i64 y3] 23))
    clear KQ_52
    have KR_60 := Lib.hid (KR_53.out.alloc (.cells #[.int .i64 x3, .int .i64 y3] 23))
    clear KR_53
    have KS_61 := Lib.hid (KS_54.out.alloc (.cells #[.int .i64 x3, .int .i64 y3] 23))
    clear KS_54
    have KT_62 := Lib.hid (TwoAt.new u6 (u6.heap.size) (x3) (y3) 23 (by simp))
    have HB63 : Hid (Below w.heap.size w (u6.alloc (.cells #[.int .i64 x3, .int .i64 y3] 23))) := HB55.out.alloc HB55.out.size _
    clear HB55
    obtain ⟨⟨xA, yA⟩, zA⟩ := KA_56.out
    obtain ⟨⟨xB, yB⟩, zB⟩ := KB_57.out
    go_wp2_with fail
    refine (rmeet_at a b c d x3 y3 e3 _ HN3.out).mono ?_
    rintro e u7 ⟨rfl, b7⟩
    clear xA yA zA xB yB zB
    have KA_64 := Lib.hid (KA_56.out.step b7)
    clear KA_56
    have KB_65 := Lib.hid (KB_57.out.step b7)
    clear KB_57
    have KP_66 := Lib.hid (KP_58.out.step b7)
    clear KP_58
    have KQ_67 := Lib.hid (KQ_59.out.step b7)
    clear KQ_59
    have KR_68 := Lib.hid (KR_60.out.step b7)
    clear KR_60
    have KS_69 := Lib.hid (KS_61.out.step b7)
    clear KS_61
    have KT_70 := Lib.hid (KT_62.out.step b7)
    clear KT_62
    have HB71 := Lib.hid (keep2 b7 HB63.out)
    clear HB63 b7
    have KA_72 := Lib.hid (KA_64.out.alloc (.cells #[.int .i64 x3, .int .i64 y3] 23))
    clear KA_64
    have KB_73 := Lib.hid (KB_65.out.alloc (.cells #[.int .i64 x3, .int .i64 y3] 23))
    clear KB_65
    have KP_74 := Lib.hid (KP_66.out.alloc (.cells #[.int .i64 x3, .int .i64 y3] 23))
    clear KP_66
    have KQ_75 := Lib.hid (KQ_67.out.alloc (.cells #[.int .i64 x3, .int .i64 y3] 23))
    clear KQ_67
    have KR_76 := Lib.hid (KR_68.out.alloc (.cells #[.int .i64 x3, .int .i64 y3] 23))
    clear KR_68
    have KS_77 := Lib.hid (KS_69.out.alloc (.cells #[.int .i64 x3, .int .i64 y3] 23))
    clear KS_69
    have KT_78 := Lib.hid (KT_70.out.alloc (.cells #[.int .i64 x3, .int .i64 y3] 23))
    clear KT_70
    have KU_79 := Lib.hid (TwoAt.new u7 (u7.heap.size) (x3) (y3) 23 (by simp))
    have HB80 : Hid (Below w.heap.size w (u7.alloc (.cells #[.int .i64 x3, .int .i64 y3] 23))) := HB71.out.alloc HB71.out.size _
    clear HB71
    go_wp2_with fail
    obtain ⟨W0, hW0⟩ : ∃ W0, (u7.alloc (.cells #[.int .i64 x3, .int .i64 y3] 23)) = W0 := ⟨_, rfl⟩
    rw [hW0] at KA_72 KB_73 KP_74 KQ_75 KR_76 KS_77 KT_78 KU_79 HB80 ⊢
    clear hW0
    obtain ⟨⟨xA, yA⟩, -⟩ := KA_72.out
    obtain ⟨⟨xB, yB⟩, -⟩ := KB_73.out
    obtain ⟨⟨xP, yP⟩, -⟩ := KP_74.out
    obtain ⟨⟨xQ, yQ⟩, -⟩ := KQ_75.out
    obtain ⟨⟨xR, yR⟩, -⟩ := KR_76.out
    obtain ⟨⟨xS, yS⟩, -⟩ := KS_77.out
    obtain ⟨⟨xT, yT⟩, -⟩ := KT_78.out
    obtain ⟨⟨xU, yU⟩, -⟩ := KU_79.out
    clear KA_72 KB_73 KP_74 KQ_75 KR_76 KS_77 KT_78 KU_79
    have HB0 := Lib.hid (show ∀ w', Below W0.heap.size W0 w' → IntsAt w' (.slice la l.length lc) l from fun w' h => HL.out.step (HB80.out.trans (h.mono HB80.out.size)))
    have hS : (fun w' : World => Below W0.heap.size W0 w' ∧ w'.cell? ⟨w.heap.size, 0, none⟩ = some (.int .i64 a) ∧ w'.cell? ⟨w.heap.size, 1, none⟩ = some (.int .i64 b) ∧ w'.cell? ⟨w.heap.size + 1, 0, none⟩ = some (.int .i64 c) ∧ w'.cell? ⟨w.heap.size + 1, 1, none⟩ = some (.int .i64 d) ∧ w'.cell? ⟨u2.heap.size, 0, none⟩ = some (.int .i64 x1) ∧ w'.cell? ⟨u2.heap.size, 1, none⟩ = some (.int .i64 y1) ∧ w'.cell? ⟨u3.heap.size, 0, none⟩ = some (.int .i64 x1) ∧ w'.cell? ⟨u3.heap.size, 1, none⟩ = some (.int .i64 y1) ∧ w'.cell? ⟨u4.heap.size, 0, none⟩ = some (.int .i64 x2) ∧ w'.cell? ⟨u4.heap.size, 1, none⟩ = some (.int .i64 y2) ∧ w'.cell? ⟨u5.heap.size, 0, none⟩ = some (.int .i64 x2) ∧ w'.cell? ⟨u5.heap.size, 1, none⟩ = some (.int .i64 y2) ∧ w'.cell? ⟨u6.heap.size, 0, none⟩ = some (.int .i64 x3) ∧ w'.cell? ⟨u6.heap.size, 1, none⟩ = some (.int .i64 y3) ∧ w'.cell? ⟨u7.heap.size, 0, none⟩ = some (.int .i64 x3) ∧ w'.cell? ⟨u7.heap.size, 1, none⟩ = some (.int .i64 y3)) W0.drew := ⟨below_drew _ _, xA, yA, xB, yB, xP, yP, xQ, yQ, xR, yR, xS, yS, xT, yT, xU, yU⟩
    go_region_held3 (fun w' => Below W0.heap.size W0 w' ∧ w'.cell? ⟨w.heap.size, 0, none⟩ = some (.int .i64 a) ∧ w'.cell? ⟨w.heap.size, 1, none⟩ = some (.int .i64 b) ∧ w'.cell? ⟨w.heap.size + 1, 0, none⟩ = some (.int .i64 c) ∧ w'.cell? ⟨w.heap.size + 1, 1, none⟩ = some (.int .i64 d) ∧ w'.cell? ⟨u2.heap.size, 0, none⟩ = some (.int .i64 x1) ∧ w'.cell? ⟨u2.heap.size, 1, none⟩ = some (.int .i64 y1) ∧ w'.cell? ⟨u3.heap.size, 0, none⟩ = some (.int .i64 x1) ∧ w'.cell? ⟨u3.heap.size, 1, none⟩ = some (.int .i64 y1) ∧ w'.cell? ⟨u4.heap.size, 0, none⟩ = some (.int .i64 x2) ∧ w'.cell? ⟨u4.heap.size, 1, none⟩ = some (.int .i64 y2) ∧ w'.cell? ⟨u5.heap.size, 0, none⟩ = some (.int .i64 x2) ∧ w'.cell? ⟨u5.heap.size, 1, none⟩ = some (.int .i64 y2) ∧ w'.cell? ⟨u6.heap.size, 0, none⟩ = some (.int .i64 x3) ∧ w'.cell? ⟨u6.heap.size, 1, none⟩ = some (.int .i64 y3) ∧ w'.cell? ⟨u7.heap.size, 0, none⟩ = some (.int .i64 x3) ∧ w'.cell? ⟨u7.heap.size, 1, none⟩ = some (.int .i64 y3))
      (first | go_keep | (go_split_ands; refine ⟨?_, ?_, ?_, ?_, ?_, ?_, ?_, ?_, ?_, ?_, ?_, ?_, ?_, ?_, ?_, ?_, ?_⟩ <;> first | assumption | exact keep1 hbq (by assumption) | exact keep2 hbq (by assumption) | go_keep))
      (first | (go_at_call 16; refine (before_at a b c d z4 _ HZ4.out).mono ?_; rintro e w' ⟨rfl, hbq⟩) | (go_at_call 17; refine (rbefore_at a b c d z4 _ HZ4.out).mono ?_; rintro e w' ⟨rfl, hbq⟩) | (go_at_call 19; refine (back_any _ l _ (HB0.out _ (by first | assumption | exact And.left (by assumption)))).mono ?_; rintro e w' ⟨v19, rfl, hv19, hbq⟩; have i19 := Lib.hid hv19; clear hv19; first | (have j20 := IntsAt.low i20.out hbq) | skip) | (go_at_call 20; refine (rback_any _ l _ (HB0.out _ (by first | assumption | exact And.left (by assumption)))).mono ?_; rintro e w' ⟨v20, rfl, hv20, hbq⟩; have i20 := Lib.hid hv20; clear hv20; first | (have j19 := IntsAt.low i19.out hbq) | skip) | (go_at_call 18; (first | (with_reducible refine (ints_any _ _ _ _ _ i19.out j20.out).mono ?_) | (with_reducible refine (ints_any _ _ _ _ _ j19.out i20.out).mono ?_)); rintro e w' ⟨rfl, hbq⟩; rw [eqI_self]))
    all_goals
      have hS9 : Below W0.heap.size W0 w' ∧ w'.cell? ⟨w.heap.size, 0, none⟩ = some (.int .i64 a) ∧ w'.cell? ⟨w.heap.size, 1, none⟩ = some (.int .i64 b) ∧ w'.cell? ⟨w.heap.size + 1, 0, none⟩ = some (.int .i64 c) ∧ w'.cell? ⟨w.heap.size + 1, 1, none⟩ = some (.int .i64 d) ∧ w'.cell? ⟨u2.heap.size, 0, none⟩ = some (.int .i64 x1) ∧ w'.cell? ⟨u2.heap.size, 1, none⟩ = some (.int .i64 y1) ∧ w'.cell? ⟨u3.heap.size, 0, none⟩ = some (.int .i64 x1) ∧ w'.cell? ⟨u3.heap.size, 1, none⟩ = some (.int .i64 y1) ∧ w'.cell? ⟨u4.heap.size, 0, none⟩ = some (.int .i64 x2) ∧ w'.cell? ⟨u4.heap.size, 1, none⟩ = some (.int .i64 y2) ∧ w'.cell? ⟨u5.heap.size, 0, none⟩ = some (.int .i64 x2) ∧ w'.cell? ⟨u5.heap.size, 1, none⟩ = some (.int .i64 y2) ∧ w'.cell? ⟨u6.heap.size, 0, none⟩ = some (.int .i64 x3) ∧ w'.cell? ⟨u6.heap.size, 1, none⟩ = some (.int .i64 y3) ∧ w'.cell? ⟨u7.heap.size, 0, none⟩ = some (.int .i64 x3) ∧ w'.cell? ⟨u7.heap.size, 1, none⟩ = some (.int .i64 y3) := by assumption
      have hS8 := Lib.hid (HB80.out.trans (hS9.1.mono HB80.out.size))
      clear hS9
      go_wp2
      go_ret
      exact ⟨rfl, hS8.out⟩
  · have q5 : decide (500 < (l.length : Int)) = true := by simp; omega
    go_wp2
    go_ret
    exact ⟨rfl, HB8.out⟩
end Go.Proofs.Ytilaiingcddegaa
