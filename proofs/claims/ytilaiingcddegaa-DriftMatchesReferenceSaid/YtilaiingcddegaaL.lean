/- The walk of DriftBefore. -/
import Derived.Test.YtilaiingcddegaaK
namespace Go.Proofs.Ytilaiingcddegaa
open Go.RowKit

theorem before_at (a b c d : Int) (v : Bool) (w : World) (h : bF a b c d = v) : Calls Try.prog 16 #[.agg #[.int .i64 a, .int .i64 b], .agg #[.int .i64 c, .int .i64 d]] w fun e w' => e = .returned (.bool v) ∧ Below w.heap.size w w' := by
  have := before_any a b c d w; rwa [h] at this
theorem valid_at (l h : Int) (v : Bool) (w : World) (hr : rng l h = v) : Calls Try.prog 22 #[.agg #[.int .i64 l, .int .i64 h]] w fun e w' => e = .returned (.bool v) ∧ Below w.heap.size w w' :=
  (valid_any l h w).mono fun e w' hh => ⟨by rw [hh.1, hr], by rw [hh.2]; exact al _ _⟩
theorem rng_iff (l h : Int) : rng l h = true ↔ 0 ≤ l ∧ l ≤ h ∧ h ≤ 2000000000 := by unfold rng; rw [decide_eq_true_iff]
theorem bF_iff (a b c d : Int) : bF a b c d = true ↔ rng a b = true ∧ rng c d = true ∧ b < c := by unfold bF; rw [Bool.and_eq_true, Bool.and_eq_true, decide_eq_true_iff]
theorem bF_self (a b : Int) : bF a b a b = false := by
  cases h : bF a b a b
  · rfl
  · have := (bF_iff _ _ _ _).1 h
    have h1 := (rng_iff _ _).1 this.1
    omega
theorem mx_comm (a b : Int) : mx a b = mx b a := by unfold mx; split <;> split <;> omega
theorem mn_comm (a b : Int) : mn a b = mn b a := by unfold mn; split <;> split <;> omega
theorem m_comm (a b c d : Int) : mLo c d a b = mLo a b c d ∧ mHi c d a b = mHi a b c d ∧ mOk c d a b = mOk a b c d := by
  have : mOk c d a b = mOk a b c d := by unfold mOk; rw [mx_comm c a, mn_comm d b]; cases rng a b <;> cases rng c d <;> rfl
  unfold mLo mHi
  rw [this, mx_comm c a, mn_comm d b]
  exact ⟨rfl, rfl, rfl⟩
theorem m_no {a b c d : Int} (h : mOk a b c d = false) : mLo a b c d = 0 ∧ mHi a b c d = 0 ∧ mOk a b c d = false := by unfold mLo mHi; rw [h]; exact ⟨rfl, rfl, rfl⟩
theorem m_yes {a b c d : Int} (h : mOk a b c d = true) : mLo a b c d = mx a c ∧ mHi a b c d = mn b d ∧ mOk a b c d = true := by unfold mLo mHi; rw [h]; exact ⟨rfl, rfl, rfl⟩
/-- The ways of three ranges. -/
inductive BCase (a b c d f g : Int) : Prop
  | noA : rng a b = false → bF a b c d = false → bF c d a b = false → mOk a b c d = false → BCase a b c d f g
  | noB : rng a b = true → rng c d = false → bF a b c d = false → bF c d a b = false → mOk a b c d = false → BCase a b c d f g
  | one : rng a b = true → rng c d = true → bF a b c d = true → bF c d a b = false → mOk a b c d = false → bF c d f g = false → BCase a b c d f g
  | oneTwo : rng a b = true → rng c d = true → bF a b c d = true → bF c d a b = false → mOk a b c d = false → bF c d f g = true → bF a b f g = true → BCase a b c d f g
  | two : rng a b = true → rng c d = true → bF a b c d = false → bF c d a b = true → mOk a b c d = false → BCase a b c d f g
  | meet (x y : Int) : rng a b = true → rng c d = true → bF a b c d = false → bF c d a b = false → mLo a b c d = x ∧ mHi a b c d = y ∧ mOk a b c d = true → a ≤ x → c ≤ x → y ≤ b → y ≤ d → x ≤ y → BCase a b c d f g
theorem bcase (a b c d f g : Int) : BCase a b c d f g := by
  cases h1 : rng a b
  · exact .noA h1 (by unfold bF; rw [h1]; rfl) (by unfold bF; rw [h1]; cases rng c d <;> rfl) (by unfold mOk; rw [h1]; rfl)
  · cases h2 : rng c d
    · exact .noB h1 h2 (by unfold bF; rw [h1, h2]; rfl) (by unfold bF; rw [h2]; rfl) (by unfold mOk; rw [h1, h2]; rfl)
    · have e1 : bF a b c d = decide (b < c) := by unfold bF; rw [h1, h2]; rfl
      have e2 : bF c d a b = decide (d < a) := by unfold bF; rw [h1, h2]; rfl
      have e3 : mOk a b c d = decide (mx a c ≤ mn b d) := by unfold mOk; rw [h1, h2]; rfl
      obtain ⟨r1, r2, r3⟩ := (rng_iff _ _).1 h1
      obtain ⟨r4, r5, r6⟩ := (rng_iff _ _).1 h2
      have hw := m_ways a b c d
      by_cases g1 : b < c
      · have e4 : mOk a b c d = false := by rw [e3, decide_eq_false_iff_not]; omega
        have e5 : bF c d a b = false := by rw [e2, decide_eq_false_iff_not]; omega
        have e6 : bF a b c d = true := by rw [e1, decide_eq_true_iff]; exact g1
        cases h3 : bF c d f g
        · exact .one h1 h2 e6 e5 e4 h3
        · obtain ⟨k1, k2, k3⟩ := (bF_iff _ _ _ _).1 h3
          exact .oneTwo h1 h2 e6 e5 e4 h3 ((bF_iff _ _ _ _).2 ⟨h1, k2, by omega⟩)
      · by_cases g2 : d < a
        · exact .two h1 h2 (by rw [e1, decide_eq_false_iff_not]; exact g1) (by rw [e2, decide_eq_true_iff]; exact g2) (by rw [e3, decide_eq_false_iff_not]; omega)
        · have e4 : mOk a b c d = true := by rw [e3, decide_eq_true_iff]; omega
          exact .meet _ _ h1 h2 (by rw [e1, decide_eq_false_iff_not]; exact g1) (by rw [e2, decide_eq_false_iff_not]; exact g2) (m_yes e4) (by omega) (by omega) (by omega) (by omega) (by omega)

set_option maxRecDepth 100000 in
set_option maxHeartbeats 16000000 in
theorem before_walk (a b c d f g : Int) (w : World) : Calls Try.prog 7 #[.agg #[.int .i64 a, .int .i64 b], .agg #[.int .i64 c, .int .i64 d], .agg #[.int .i64 f, .int .i64 g]] w fun e w' => e = .returned (.bool true) ∧ Below w.heap.size w w' := by
  have HS := Lib.hid (bF_self a b)
  have HM := Lib.hid (m_comm a b c d)
  rcases bcase a b c d f g with ⟨ra, h1, h2, h3⟩ | ⟨ra, rb, h1, h2, h3⟩ | ⟨ra, rb, h1, h2, h3, h4⟩ | ⟨ra, rb, h1, h2, h3, h4, h5⟩ | ⟨ra, rb, h1, h2, h3⟩ | ⟨x, y, ra, rb, h1, h2, h3, g1, g2, g3, g4, g5⟩
  · have M := Lib.hid (m_no h3)
    have H1 := Lib.hid h1
    have H2 := Lib.hid h2
    have RA := Lib.hid ra
    clear h1 h2 h3 ra
    have HB0 := Lib.hid (Below.refl w.heap.size w)
    go_enter Try.func7, Try.ntmps7
    have KA_1 := Lib.hid (TwoAt.new w (w.heap.size) (a) (b) 23 (by simp))
    have HB2 : Hid (Below w.heap.size w (w.alloc (.cells #[.int .i64 a, .int .i64 b] 23))) := HB0.out.alloc HB0.out.size _
    clear HB0
    have KA_3 := Lib.hid (KA_1.out.alloc (.cells #[.int .i64 c, .int .i64 d] 23))
    clear KA_1
    have KB_4 := Lib.hid (TwoAt.new (w.alloc (.cells #[.int .i64 a, .int .i64 b] 23)) (w.heap.size + 1) (c) (d) 23 (by simp))
    have HB5 : Hid (Below w.heap.size w ((w.alloc (.cells #[.int .i64 a, .int .i64 b] 23)).alloc (.cells #[.int .i64 c, .int .i64 d] 23))) := HB2.out.alloc HB2.out.size _
    clear HB2
    have KA_6 := Lib.hid (KA_3.out.alloc (.cells #[.int .i64 f, .int .i64 g] 23))
    clear KA_3
    have KB_7 := Lib.hid (KB_4.out.alloc (.cells #[.int .i64 f, .int .i64 g] 23))
    clear KB_4
    have KC_8 := Lib.hid (TwoAt.new ((w.alloc (.cells #[.int .i64 a, .int .i64 b] 23)).alloc (.cells #[.int .i64 c, .int .i64 d] 23)) (w.heap.size + 1 + 1) (f) (g) 23 (by simp))
    have HB9 : Hid (Below w.heap.size w (((w.alloc (.cells #[.int .i64 a, .int .i64 b] 23)).alloc (.cells #[.int .i64 c, .int .i64 d] 23)).alloc (.cells #[.int .i64 f, .int .i64 g] 23))) := HB5.out.alloc HB5.out.size _
    clear HB5
    go_wp2_with fail
    refine (head_any _).mono ?_
    rintro e u1 ⟨rfl, b1⟩
    have KA_10 := Lib.hid (KA_6.out.step b1)
    clear KA_6
    have KB_11 := Lib.hid (KB_7.out.step b1)
    clear KB_7
    have KC_12 := Lib.hid (KC_8.out.step b1)
    clear KC_8
    have HB13 := Lib.hid (keep2 b1 HB9.out)
    clear HB9 b1
    obtain ⟨⟨xA, yA⟩, zA⟩ := KA_10.out
    obtain ⟨⟨xB, yB⟩, zB⟩ := KB_11.out
    go_wp2_with fail
    refine (meet_at a b c d 0 0 false _ M.out).mono ?_
    rintro e u2 ⟨rfl, b2⟩
    clear xA yA zA xB yB zB
    have KA_14 := Lib.hid (KA_10.out.step b2)
    clear KA_10
    have KB_15 := Lib.hid (KB_11.out.step b2)
    clear KB_11
    have KC_16 := Lib.hid (KC_12.out.step b2)
    clear KC_12
    have HB17 := Lib.hid (keep2 b2 HB13.out)
    clear HB13 b2
    have KA_18 := Lib.hid (KA_14.out.alloc (.cells #[.int .i64 0, .int .i64 0] 23))
    clear KA_14
    have KB_19 := Lib.hid (KB_15.out.alloc (.cells #[.int .i64 0, .int .i64 0] 23))
    clear KB_15
    have KC_20 := Lib.hid (KC_16.out.alloc (.cells #[.int .i64 0, .int .i64 0] 23))
    clear KC_16
    have KM_21 := Lib.hid (TwoAt.new u2 (u2.heap.size) (0) (0) 23 (by simp))
    have HB22 : Hid (Below w.heap.size w (u2.alloc (.cells #[.int .i64 0, .int .i64 0] 23))) := HB17.out.alloc HB17.out.size _
    clear HB17
    obtain ⟨⟨xA, yA⟩, zA⟩ := KA_18.out
    obtain ⟨⟨xB, yB⟩, zB⟩ := KB_19.out
    go_wp2_with fail
    refine (meet_at c d a b 0 0 false _ ⟨HM.out.1.trans M.out.1, HM.out.2.1.trans M.out.2.1, HM.out.2.2.trans M.out.2.2⟩).mono ?_
    rintro e u3 ⟨rfl, b3⟩
    clear xA yA zA xB yB zB
    have KA_23 := Lib.hid (KA_18.out.step b3)
    clear KA_18
    have KB_24 := Lib.hid (KB_19.out.step b3)
    clear KB_19
    have KC_25 := Lib.hid (KC_20.out.step b3)
    clear KC_20
    have KM_26 := Lib.hid (KM_21.out.step b3)
    clear KM_21
    have HB27 := Lib.hid (keep2 b3 HB22.out)
    clear HB22 b3
    have KA_28 := Lib.hid (KA_23.out.alloc (.cells #[.int .i64 0, .int .i64 0] 23))
    clear KA_23
    have KB_29 := Lib.hid (KB_24.out.alloc (.cells #[.int .i64 0, .int .i64 0] 23))
    clear KB_24
    have KC_30 := Lib.hid (KC_25.out.alloc (.cells #[.int .i64 0, .int .i64 0] 23))
    clear KC_25
    have KM_31 := Lib.hid (KM_26.out.alloc (.cells #[.int .i64 0, .int .i64 0] 23))
    clear KM_26
    have KN_32 := Lib.hid (TwoAt.new u3 (u3.heap.size) (0) (0) 23 (by simp))
    have HB33 : Hid (Below w.heap.size w (u3.alloc (.cells #[.int .i64 0, .int .i64 0] 23))) := HB27.out.alloc HB27.out.size _
    clear HB27
    obtain ⟨⟨xA, yA⟩, zA⟩ := KA_28.out
    obtain ⟨⟨xB, yB⟩, zB⟩ := KB_29.out
    go_wp2_with fail
    refine (before_at a b c d _ _ H1.out).mono ?_
    rintro e u4 ⟨rfl, b4⟩
    clear xA yA zA xB yB zB
    have KA_34 := Lib.hid (KA_28.out.step b4)
    clear KA_28
    have KB_35 := Lib.hid (KB_29.out.step b4)
    clear KB_29
    have KC_36 := Lib.hid (KC_30.out.step b4)
    clear KC_30
    have KM_37 := Lib.hid (KM_31.out.step b4)
    clear KM_31
    have KN_38 := Lib.hid (KN_32.out.step b4)
    clear KN_32
    have HB39 := Lib.hid (keep2 b4 HB33.out)
    clear HB33 b4
    obtain ⟨⟨xA, yA⟩, zA⟩ := KA_34.out
    obtain ⟨⟨xB, yB⟩, zB⟩ := KB_35.out
    go_wp2_with fail
    refine (before_at c d a b _ _ H2.out).mono ?_
    rintro e u5 ⟨rfl, b5⟩
    clear xA yA zA xB yB zB
    have KA_40 := Lib.hid (KA_34.out.step b5)
    clear KA_34
    have KB_41 := Lib.hid (KB_35.out.step b5)
    clear KB_35
    have KC_42 := Lib.hid (KC_36.out.step b5)
    clear KC_36
    have KM_43 := Lib.hid (KM_37.out.step b5)
    clear KM_37
    have KN_44 := Lib.hid (KN_38.out.step b5)
    clear KN_38
    have HB45 := Lib.hid (keep2 b5 HB39.out)
    clear HB39 b5
    obtain ⟨⟨xA, yA⟩, zA⟩ := KA_40.out
    obtain ⟨⟨xB, yB⟩, zB⟩ := KB_41.out
    go_wp2_with fail
    refine (before_at a b a b _ _ HS.out).mono ?_
    rintro e u6 ⟨rfl, b6⟩
    clear xA yA zA xB yB zB
    have KA_46 := Lib.hid (KA_40.out.step b6)
    clear KA_40
    have KB_47 := Lib.hid (KB_41.out.step b6)
    clear KB_41
    have KC_48 := Lib.hid (KC_42.out.step b6)
    clear KC_42
    have KM_49 := Lib.hid (KM_43.out.step b6)
    clear KM_43
    have KN_50 := Lib.hid (KN_44.out.step b6)
    clear KN_44
    have HB51 := Lib.hid (keep2 b6 HB45.out)
    clear HB45 b6
    obtain ⟨⟨xA, yA⟩, zA⟩ := KA_46.out
    obtain ⟨⟨xB, yB⟩, zB⟩ := KB_47.out
    obtain ⟨⟨xC, yC⟩, zC⟩ := KC_48.out
    obtain ⟨⟨xM, yM⟩, zM⟩ := KM_49.out
    obtain ⟨⟨xN, yN⟩, zN⟩ := KN_50.out
    go_wp2_with fail
    refine (valid_at a b _ _ RA.out).mono ?_
    rintro e u7 ⟨rfl, b7⟩
    clear xA yA zA xB yB zB xC yC zC xM yM zM xN yN zN
    have KA_52 := Lib.hid (KA_46.out.step b7)
    clear KA_46
    have KB_53 := Lib.hid (KB_47.out.step b7)
    clear KB_47
    have KC_54 := Lib.hid (KC_48.out.step b7)
    clear KC_48
    have KM_55 := Lib.hid (KM_49.out.step b7)
    clear KM_49
    have KN_56 := Lib.hid (KN_50.out.step b7)
    clear KN_50
    have HB57 := Lib.hid (keep2 b7 HB51.out)
    clear HB51 b7
    obtain ⟨⟨xA, yA⟩, zA⟩ := KA_52.out
    obtain ⟨⟨xB, yB⟩, zB⟩ := KB_53.out
    obtain ⟨⟨xC, yC⟩, zC⟩ := KC_54.out
    obtain ⟨⟨xM, yM⟩, zM⟩ := KM_55.out
    obtain ⟨⟨xN, yN⟩, zN⟩ := KN_56.out
    go_wp2_with fail
    go_ret
    exact ⟨rfl, HB57.out⟩
  · have M := Lib.hid (m_no h3)
    have H1 := Lib.hid h1
    have H2 := Lib.hid h2
    have RA := Lib.hid ra
    have RB := Lib.hid rb
    clear h1 h2 h3 ra rb
    have HB0 := Lib.hid (Below.refl w.heap.size w)
    go_enter Try.func7, Try.ntmps7
    have KA_1 := Lib.hid (TwoAt.new w (w.heap.size) (a) (b) 23 (by simp))
    have HB2 : Hid (Below w.heap.size w (w.alloc (.cells #[.int .i64 a, .int .i64 b] 23))) := HB0.out.alloc HB0.out.size _
    clear HB0
    have KA_3 := Lib.hid (KA_1.out.alloc (.cells #[.int .i64 c, .int .i64 d] 23))
    clear KA_1
    have KB_4 := Lib.hid (TwoAt.new (w.alloc (.cells #[.int .i64 a, .int .i64 b] 23)) (w.heap.size + 1) (c) (d) 23 (by simp))
    have HB5 : Hid (Below w.heap.size w ((w.alloc (.cells #[.int .i64 a, .int .i64 b] 23)).alloc (.cells #[.int .i64 c, .int .i64 d] 23))) := HB2.out.alloc HB2.out.size _
    clear HB2
    have KA_6 := Lib.hid (KA_3.out.alloc (.cells #[.int .i64 f, .int .i64 g] 23))
    clear KA_3
    have KB_7 := Lib.hid (KB_4.out.alloc (.cells #[.int .i64 f, .int .i64 g] 23))
    clear KB_4
    have KC_8 := Lib.hid (TwoAt.new ((w.alloc (.cells #[.int .i64 a, .int .i64 b] 23)).alloc (.cells #[.int .i64 c, .int .i64 d] 23)) (w.heap.size + 1 + 1) (f) (g) 23 (by simp))
    have HB9 : Hid (Below w.heap.size w (((w.alloc (.cells #[.int .i64 a, .int .i64 b] 23)).alloc (.cells #[.int .i64 c, .int .i64 d] 23)).alloc (.cells #[.int .i64 f, .int .i64 g] 23))) := HB5.out.alloc HB5.out.size _
    clear HB5
    go_wp2_with fail
    refine (head_any _).mono ?_
    rintro e u1 ⟨rfl, b1⟩
    have KA_10 := Lib.hid (KA_6.out.step b1)
    clear KA_6
    have KB_11 := Lib.hid (KB_7.out.step b1)
    clear KB_7
    have KC_12 := Lib.hid (KC_8.out.step b1)
    clear KC_8
    have HB13 := Lib.hid (keep2 b1 HB9.out)
    clear HB9 b1
    obtain ⟨⟨xA, yA⟩, zA⟩ := KA_10.out
    obtain ⟨⟨xB, yB⟩, zB⟩ := KB_11.out
    go_wp2_with fail
    refine (meet_at a b c d 0 0 false _ M.out).mono ?_
    rintro e u2 ⟨rfl, b2⟩
    clear xA yA zA xB yB zB
    have KA_14 := Lib.hid (KA_10.out.step b2)
    clear KA_10
    have KB_15 := Lib.hid (KB_11.out.step b2)
    clear KB_11
    have KC_16 := Lib.hid (KC_12.out.step b2)
    clear KC_12
    have HB17 := Lib.hid (keep2 b2 HB13.out)
    clear HB13 b2
    have KA_18 := Lib.hid (KA_14.out.alloc (.cells #[.int .i64 0, .int .i64 0] 23))
    clear KA_14
    have KB_19 := Lib.hid (KB_15.out.alloc (.cells #[.int .i64 0, .int .i64 0] 23))
    clear KB_15
    have KC_20 := Lib.hid (KC_16.out.alloc (.cells #[.int .i64 0, .int .i64 0] 23))
    clear KC_16
    have KM_21 := Lib.hid (TwoAt.new u2 (u2.heap.size) (0) (0) 23 (by simp))
    have HB22 : Hid (Below w.heap.size w (u2.alloc (.cells #[.int .i64 0, .int .i64 0] 23))) := HB17.out.alloc HB17.out.size _
    clear HB17
    obtain ⟨⟨xA, yA⟩, zA⟩ := KA_18.out
    obtain ⟨⟨xB, yB⟩, zB⟩ := KB_19.out
    go_wp2_with fail
    refine (meet_at c d a b 0 0 false _ ⟨HM.out.1.trans M.out.1, HM.out.2.1.trans M.out.2.1, HM.out.2.2.trans M.out.2.2⟩).mono ?_
    rintro e u3 ⟨rfl, b3⟩
    clear xA yA zA xB yB zB
    have KA_23 := Lib.hid (KA_18.out.step b3)
    clear KA_18
    have KB_24 := Lib.hid (KB_19.out.step b3)
    clear KB_19
    have KC_25 := Lib.hid (KC_20.out.step b3)
    clear KC_20
    have KM_26 := Lib.hid (KM_21.out.step b3)
    clear KM_21
    have HB27 := Lib.hid (keep2 b3 HB22.out)
    clear HB22 b3
    have KA_28 := Lib.hid (KA_23.out.alloc (.cells #[.int .i64 0, .int .i64 0] 23))
    clear KA_23
    have KB_29 := Lib.hid (KB_24.out.alloc (.cells #[.int .i64 0, .int .i64 0] 23))
    clear KB_24
    have KC_30 := Lib.hid (KC_25.out.alloc (.cells #[.int .i64 0, .int .i64 0] 23))
    clear KC_25
    have KM_31 := Lib.hid (KM_26.out.alloc (.cells #[.int .i64 0, .int .i64 0] 23))
    clear KM_26
    have KN_32 := Lib.hid (TwoAt.new u3 (u3.heap.size) (0) (0) 23 (by simp))
    have HB33 : Hid (Below w.heap.size w (u3.alloc (.cells #[.int .i64 0, .int .i64 0] 23))) := HB27.out.alloc HB27.out.size _
    clear HB27
    obtain ⟨⟨xA, yA⟩, zA⟩ := KA_28.out
    obtain ⟨⟨xB, yB⟩, zB⟩ := KB_29.out
    go_wp2_with fail
    refine (before_at a b c d _ _ H1.out).mono ?_
    rintro e u4 ⟨rfl, b4⟩
    clear xA yA zA xB yB zB
    have KA_34 := Lib.hid (KA_28.out.step b4)
    clear KA_28
    have KB_35 := Lib.hid (KB_29.out.step b4)
    clear KB_29
    have KC_36 := Lib.hid (KC_30.out.step b4)
    clear KC_30
    have KM_37 := Lib.hid (KM_31.out.step b4)
    clear KM_31
    have KN_38 := Lib.hid (KN_32.out.step b4)
    clear KN_32
    have HB39 := Lib.hid (keep2 b4 HB33.out)
    clear HB33 b4
    obtain ⟨⟨xA, yA⟩, zA⟩ := KA_34.out
    obtain ⟨⟨xB, yB⟩, zB⟩ := KB_35.out
    go_wp2_with fail
    refine (before_at c d a b _ _ H2.out).mono ?_
    rintro e u5 ⟨rfl, b5⟩
    clear xA yA zA xB yB zB
    have KA_40 := Lib.hid (KA_34.out.step b5)
    clear KA_34
    have KB_41 := Lib.hid (KB_35.out.step b5)
    clear KB_35
    have KC_42 := Lib.hid (KC_36.out.step b5)
    clear KC_36
    have KM_43 := Lib.hid (KM_37.out.step b5)
    clear KM_37
    have KN_44 := Lib.hid (KN_38.out.step b5)
    clear KN_38
    have HB45 := Lib.hid (keep2 b5 HB39.out)
    clear HB39 b5
    obtain ⟨⟨xA, yA⟩, zA⟩ := KA_40.out
    obtain ⟨⟨xB, yB⟩, zB⟩ := KB_41.out
    go_wp2_with fail
    refine (before_at a b a b _ _ HS.out).mono ?_
    rintro e u6 ⟨rfl, b6⟩
    clear xA yA zA xB yB zB
    have KA_46 := Lib.hid (KA_40.out.step b6)
    clear KA_40
    have KB_47 := Lib.hid (KB_41.out.step b6)
    clear KB_41
    have KC_48 := Lib.hid (KC_42.out.step b6)
    clear KC_42
    have KM_49 := Lib.hid (KM_43.out.step b6)
    clear KM_43
    have KN_50 := Lib.hid (KN_44.out.step b6)
    clear KN_44
    have HB51 := Lib.hid (keep2 b6 HB45.out)
    clear HB45 b6
    obtain ⟨⟨xA, yA⟩, zA⟩ := KA_46.out
    obtain ⟨⟨xB, yB⟩, zB⟩ := KB_47.out
    obtain ⟨⟨xC, yC⟩, zC⟩ := KC_48.out
    obtain ⟨⟨xM, yM⟩, zM⟩ := KM_49.out
    obtain ⟨⟨xN, yN⟩, zN⟩ := KN_50.out
    go_wp2_with fail
    refine (valid_at a b _ _ RA.out).mono ?_
    rintro e u7 ⟨rfl, b7⟩
    clear xA yA zA xB yB zB xC yC zC xM yM zM xN yN zN
    have KA_52 := Lib.hid (KA_46.out.step b7)
    clear KA_46
    have KB_53 := Lib.hid (KB_47.out.step b7)
    clear KB_47
    have KC_54 := Lib.hid (KC_48.out.step b7)
    clear KC_48
    have KM_55 := Lib.hid (KM_49.out.step b7)
    clear KM_49
    have KN_56 := Lib.hid (KN_50.out.step b7)
    clear KN_50
    have HB57 := Lib.hid (keep2 b7 HB51.out)
    clear HB51 b7
    obtain ⟨⟨xA, yA⟩, zA⟩ := KA_52.out
    obtain ⟨⟨xB, yB⟩, zB⟩ := KB_53.out
    obtain ⟨⟨xC, yC⟩, zC⟩ := KC_54.out
    obtain ⟨⟨xM, yM⟩, zM⟩ := KM_55.out
    obtain ⟨⟨xN, yN⟩, zN⟩ := KN_56.out
    go_wp2_with fail
    refine (valid_at c d _ _ RB.out).mono ?_
    rintro e u8 ⟨rfl, b8⟩
    clear xA yA zA xB yB zB xC yC zC xM yM zM xN yN zN
    have KA_58 := Lib.hid (KA_52.out.step b8)
    clear KA_52
    have KB_59 := Lib.hid (KB_53.out.step b8)
    clear KB_53
    have KC_60 := Lib.hid (KC_54.out.step b8)
    clear KC_54
    have KM_61 := Lib.hid (KM_55.out.step b8)
    clear KM_55
    have KN_62 := Lib.hid (KN_56.out.step b8)
    clear KN_56
    have HB63 := Lib.hid (keep2 b8 HB57.out)
    clear HB57 b8
    obtain ⟨⟨xA, yA⟩, zA⟩ := KA_58.out
    obtain ⟨⟨xB, yB⟩, zB⟩ := KB_59.out
    obtain ⟨⟨xC, yC⟩, zC⟩ := KC_60.out
    obtain ⟨⟨xM, yM⟩, zM⟩ := KM_61.out
    obtain ⟨⟨xN, yN⟩, zN⟩ := KN_62.out
    go_wp2_with fail
    go_ret
    exact ⟨rfl, HB63.out⟩
  · have M := Lib.hid (m_no h3)
    have H1 := Lib.hid h1
    have H2 := Lib.hid h2
    have RA := Lib.hid ra
    have RB := Lib.hid rb
    have H4 := Lib.hid h4
    clear h1 h2 h3 ra rb h4
    have HB0 := Lib.hid (Below.refl w.heap.size w)
    go_enter Try.func7, Try.ntmps7
    have KA_1 := Lib.hid (TwoAt.new w (w.heap.size) (a) (b) 23 (by simp))
    have HB2 : Hid (Below w.heap.size w (w.alloc (.cells #[.int .i64 a, .int .i64 b] 23))) := HB0.out.alloc HB0.out.size _
    clear HB0
    have KA_3 := Lib.hid (KA_1.out.alloc (.cells #[.int .i64 c, .int .i64 d] 23))
    clear KA_1
    have KB_4 := Lib.hid (TwoAt.new (w.alloc (.cells #[.int .i64 a, .int .i64 b] 23)) (w.heap.size + 1) (c) (d) 23 (by simp))
    have HB5 : Hid (Below w.heap.size w ((w.alloc (.cells #[.int .i64 a, .int .i64 b] 23)).alloc (.cells #[.int .i64 c, .int .i64 d] 23))) := HB2.out.alloc HB2.out.size _
    clear HB2
    have KA_6 := Lib.hid (KA_3.out.alloc (.cells #[.int .i64 f, .int .i64 g] 23))
    clear KA_3
    have KB_7 := Lib.hid (KB_4.out.alloc (.cells #[.int .i64 f, .int .i64 g] 23))
    clear KB_4
    have KC_8 := Lib.hid (TwoAt.new ((w.alloc (.cells #[.int .i64 a, .int .i64 b] 23)).alloc (.cells #[.int .i64 c, .int .i64 d] 23)) (w.heap.size + 1 + 1) (f) (g) 23 (by simp))
    have HB9 : Hid (Below w.heap.size w (((w.alloc (.cells #[.int .i64 a, .int .i64 b] 23)).alloc (.cells #[.int .i64 c, .int .i64 d] 23)).alloc (.cells #[.int .i64 f, .int .i64 g] 23))) := HB5.out.alloc HB5.out.size _
    clear HB5
    go_wp2_with fail
    refine (head_any _).mono ?_
    rintro e u1 ⟨rfl, b1⟩
    have KA_10 := Lib.hid (KA_6.out.step b1)
    clear KA_6
    have KB_11 := Lib.hid (KB_7.out.step b1)
    clear KB_7
    have KC_12 := Lib.hid (KC_8.out.step b1)
    clear KC_8
    have HB13 := Lib.hid (keep2 b1 HB9.out)
    clear HB9 b1
    obtain ⟨⟨xA, yA⟩, zA⟩ := KA_10.out
    obtain ⟨⟨xB, yB⟩, zB⟩ := KB_11.out
    go_wp2_with fail
    refine (meet_at a b c d 0 0 false _ M.out).mono ?_
    rintro e u2 ⟨rfl, b2⟩
    clear xA yA zA xB yB zB
    have KA_14 := Lib.hid (KA_10.out.step b2)
    clear KA_10
    have KB_15 := Lib.hid (KB_11.out.step b2)
    clear KB_11
    have KC_16 := Lib.hid (KC_12.out.step b2)
    clear KC_12
    have HB17 := Lib.hid (keep2 b2 HB13.out)
    clear HB13 b2
    have KA_18 := Lib.hid (KA_14.out.alloc (.cells #[.int .i64 0, .int .i64 0] 23))
    clear KA_14
    have KB_19 := Lib.hid (KB_15.out.alloc (.cells #[.int .i64 0, .int .i64 0] 23))
    clear KB_15
    have KC_20 := Lib.hid (KC_16.out.alloc (.cells #[.int .i64 0, .int .i64 0] 23))
    clear KC_16
    have KM_21 := Lib.hid (TwoAt.new u2 (u2.heap.size) (0) (0) 23 (by simp))
    have HB22 : Hid (Below w.heap.size w (u2.alloc (.cells #[.int .i64 0, .int .i64 0] 23))) := HB17.out.alloc HB17.out.size _
    clear HB17
    obtain ⟨⟨xA, yA⟩, zA⟩ := KA_18.out
    obtain ⟨⟨xB, yB⟩, zB⟩ := KB_19.out
    go_wp2_with fail
    refine (meet_at c d a b 0 0 false _ ⟨HM.out.1.trans M.out.1, HM.out.2.1.trans M.out.2.1, HM.out.2.2.trans M.out.2.2⟩).mono ?_
    rintro e u3 ⟨rfl, b3⟩
    clear xA yA zA xB yB zB
    have KA_23 := Lib.hid (KA_18.out.step b3)
    clear KA_18
    have KB_24 := Lib.hid (KB_19.out.step b3)
    clear KB_19
    have KC_25 := Lib.hid (KC_20.out.step b3)
    clear KC_20
    have KM_26 := Lib.hid (KM_21.out.step b3)
    clear KM_21
    have HB27 := Lib.hid (keep2 b3 HB22.out)
    clear HB22 b3
    have KA_28 := Lib.hid (KA_23.out.alloc (.cells #[.int .i64 0, .int .i64 0] 23))
    clear KA_23
    have KB_29 := Lib.hid (KB_24.out.alloc (.cells #[.int .i64 0, .int .i64 0] 23))
    clear KB_24
    have KC_30 := Lib.hid (KC_25.out.alloc (.cells #[.int .i64 0, .int .i64 0] 23))
    clear KC_25
    have KM_31 := Lib.hid (KM_26.out.alloc (.cells #[.int .i64 0, .int .i64 0] 23))
    clear KM_26
    have KN_32 := Lib.hid (TwoAt.new u3 (u3.heap.size) (0) (0) 23 (by simp))
    have HB33 : Hid (Below w.heap.size w (u3.alloc (.cells #[.int .i64 0, .int .i64 0] 23))) := HB27.out.alloc HB27.out.size _
    clear HB27
    obtain ⟨⟨xA, yA⟩, zA⟩ := KA_28.out
    obtain ⟨⟨xB, yB⟩, zB⟩ := KB_29.out
    go_wp2_with fail
    refine (before_at a b c d _ _ H1.out).mono ?_
    rintro e u4 ⟨rfl, b4⟩
    clear xA yA zA xB yB zB
    have KA_34 := Lib.hid (KA_28.out.step b4)
    clear KA_28
    have KB_35 := Lib.hid (KB_29.out.step b4)
    clear KB_29
    have KC_36 := Lib.hid (KC_30.out.step b4)
    clear KC_30
    have KM_37 := Lib.hid (KM_31.out.step b4)
    clear KM_31
    have KN_38 := Lib.hid (KN_32.out.step b4)
    clear KN_32
    have HB39 := Lib.hid (keep2 b4 HB33.out)
    clear HB33 b4
    obtain ⟨⟨xA, yA⟩, zA⟩ := KA_34.out
    obtain ⟨⟨xB, yB⟩, zB⟩ := KB_35.out
    go_wp2_with fail
    refine (before_at c d a b _ _ H2.out).mono ?_
    rintro e u5 ⟨rfl, b5⟩
    clear xA yA zA xB yB zB
    have KA_40 := Lib.hid (KA_34.out.step b5)
    clear KA_34
    have KB_41 := Lib.hid (KB_35.out.step b5)
    clear KB_35
    have KC_42 := Lib.hid (KC_36.out.step b5)
    clear KC_36
    have KM_43 := Lib.hid (KM_37.out.step b5)
    clear KM_37
    have KN_44 := Lib.hid (KN_38.out.step b5)
    clear KN_38
    have HB45 := Lib.hid (keep2 b5 HB39.out)
    clear HB39 b5
    obtain ⟨⟨xA, yA⟩, zA⟩ := KA_40.out
    obtain ⟨⟨xB, yB⟩, zB⟩ := KB_41.out
    go_wp2_with fail
    refine (before_at a b a b _ _ HS.out).mono ?_
    rintro e u6 ⟨rfl, b6⟩
    clear xA yA zA xB yB zB
    have KA_46 := Lib.hid (KA_40.out.step b6)
    clear KA_40
    have KB_47 := Lib.hid (KB_41.out.step b6)
    clear KB_41
    have KC_48 := Lib.hid (KC_42.out.step b6)
    clear KC_42
    have KM_49 := Lib.hid (KM_43.out.step b6)
    clear KM_43
    have KN_50 := Lib.hid (KN_44.out.step b6)
    clear KN_44
    have HB51 := Lib.hid (keep2 b6 HB45.out)
    clear HB45 b6
    obtain ⟨⟨xA, yA⟩, zA⟩ := KA_46.out
    obtain ⟨⟨xB, yB⟩, zB⟩ := KB_47.out
    obtain ⟨⟨xC, yC⟩, zC⟩ := KC_48.out
    obtain ⟨⟨xM, yM⟩, zM⟩ := KM_49.out
    obtain ⟨⟨xN, yN⟩, zN⟩ := KN_50.out
    go_wp2_with fail
    refine (before_at c d f g _ _ H4.out).mono ?_
    rintro e u7 ⟨rfl, b7⟩
    clear xA yA zA xB yB zB xC yC zC xM yM zM xN yN zN
    have KA_52 := Lib.hid (KA_46.out.step b7)
    clear KA_46
    have KB_53 := Lib.hid (KB_47.out.step b7)
    clear KB_47
    have KC_54 := Lib.hid (KC_48.out.step b7)
    clear KC_48
    have KM_55 := Lib.hid (KM_49.out.step b7)
    clear KM_49
    have KN_56 := Lib.hid (KN_50.out.step b7)
    clear KN_50
    have HB57 := Lib.hid (keep2 b7 HB51.out)
    clear HB51 b7
    obtain ⟨⟨xA, yA⟩, zA⟩ := KA_52.out
    obtain ⟨⟨xB, yB⟩, zB⟩ := KB_53.out
    obtain ⟨⟨xC, yC⟩, zC⟩ := KC_54.out
    obtain ⟨⟨xM, yM⟩, zM⟩ := KM_55.out
    obtain ⟨⟨xN, yN⟩, zN⟩ := KN_56.out
    go_wp2_with fail
    refine (valid_at a b _ _ RA.out).mono ?_
    rintro e u8 ⟨rfl, b8⟩
    clear xA yA zA xB yB zB xC yC zC xM yM zM xN yN zN
    have KA_58 := Lib.hid (KA_52.out.step b8)
    clear KA_52
    have KB_59 := Lib.hid (KB_53.out.step b8)
    clear KB_53
    have KC_60 := Lib.hid (KC_54.out.step b8)
    clear KC_54
    have KM_61 := Lib.hid (KM_55.out.step b8)
    clear KM_55
    have KN_62 := Lib.hid (KN_56.out.step b8)
    clear KN_56
    have HB63 := Lib.hid (keep2 b8 HB57.out)
    clear HB57 b8
    obtain ⟨⟨xA, yA⟩, zA⟩ := KA_58.out
    obtain ⟨⟨xB, yB⟩, zB⟩ := KB_59.out
    obtain ⟨⟨xC, yC⟩, zC⟩ := KC_60.out
    obtain ⟨⟨xM, yM⟩, zM⟩ := KM_61.out
    obtain ⟨⟨xN, yN⟩, zN⟩ := KN_62.out
    go_wp2_with fail
    refine (valid_at c d _ _ RB.out).mono ?_
    rintro e u9 ⟨rfl, b9⟩
    clear xA yA zA xB yB zB xC yC zC xM yM zM xN yN zN
    have KA_64 := Lib.hid (KA_58.out.step b9)
    clear KA_58
    have KB_65 := Lib.hid (KB_59.out.step b9)
    clear KB_59
    have KC_66 := Lib.hid (KC_60.out.step b9)
    clear KC_60
    have KM_67 := Lib.hid (KM_61.out.step b9)
    clear KM_61
    have KN_68 := Lib.hid (KN_62.out.step b9)
    clear KN_62
    have HB69 := Lib.hid (keep2 b9 HB63.out)
    clear HB63 b9
    obtain ⟨⟨xA, yA⟩, zA⟩ := KA_64.out
    obtain ⟨⟨xB, yB⟩, zB⟩ := KB_65.out
    obtain ⟨⟨xC, yC⟩, zC⟩ := KC_66.out
    obtain ⟨⟨xM, yM⟩, zM⟩ := KM_67.out
    obtain ⟨⟨xN, yN⟩, zN⟩ := KN_68.out
    go_wp2_with fail
    go_ret
    exact ⟨rfl, HB69.out⟩
  · have M := Lib.hid (m_no h3)
    have H1 := Lib.hid h1
    have H2 := Lib.hid h2
    have RA := Lib.hid ra
    have RB := Lib.hid rb
    have H4 := Lib.hid h4
    have H5 := Lib.hid h5
    clear h1 h2 h3 ra rb h4 h5
    have HB0 := Lib.hid (Below.refl w.heap.size w)
    go_enter Try.func7, Try.ntmps7
    have KA_1 := Lib.hid (TwoAt.new w (w.heap.size) (a) (b) 23 (by simp))
    have HB2 : Hid (Below w.heap.size w (w.alloc (.cells #[.int .i64 a, .int .i64 b] 23))) := HB0.out.alloc HB0.out.size _
    clear HB0
    have KA_3 := Lib.hid (KA_1.out.alloc (.cells #[.int .i64 c, .int .i64 d] 23))
    clear KA_1
    have KB_4 := Lib.hid (TwoAt.new (w.alloc (.cells #[.int .i64 a, .int .i64 b] 23)) (w.heap.size + 1) (c) (d) 23 (by simp))
    have HB5 : Hid (Below w.heap.size w ((w.alloc (.cells #[.int .i64 a, .int .i64 b] 23)).alloc (.cells #[.int .i64 c, .int .i64 d] 23))) := HB2.out.alloc HB2.out.size _
    clear HB2
    have KA_6 := Lib.hid (KA_3.out.alloc (.cells #[.int .i64 f, .int .i64 g] 23))
    clear KA_3
    have KB_7 := Lib.hid (KB_4.out.alloc (.cells #[.int .i64 f, .int .i64 g] 23))
    clear KB_4
    have KC_8 := Lib.hid (TwoAt.new ((w.alloc (.cells #[.int .i64 a, .int .i64 b] 23)).alloc (.cells #[.int .i64 c, .int .i64 d] 23)) (w.heap.size + 1 + 1) (f) (g) 23 (by simp))
    have HB9 : Hid (Below w.heap.size w (((w.alloc (.cells #[.int .i64 a, .int .i64 b] 23)).alloc (.cells #[.int .i64 c, .int .i64 d] 23)).alloc (.cells #[.int .i64 f, .int .i64 g] 23))) := HB5.out.alloc HB5.out.size _
    clear HB5
    go_wp2_with fail
    refine (head_any _).mono ?_
    rintro e u1 ⟨rfl, b1⟩
    have KA_10 := Lib.hid (KA_6.out.step b1)
    clear KA_6
    have KB_11 := Lib.hid (KB_7.out.step b1)
    clear KB_7
    have KC_12 := Lib.hid (KC_8.out.step b1)
    clear KC_8
    have HB13 := Lib.hid (keep2 b1 HB9.out)
    clear HB9 b1
    obtain ⟨⟨xA, yA⟩, zA⟩ := KA_10.out
    obtain ⟨⟨xB, yB⟩, zB⟩ := KB_11.out
    go_wp2_with fail
    refine (meet_at a b c d 0 0 false _ M.out).mono ?_
    rintro e u2 ⟨rfl, b2⟩
    clear xA yA zA xB yB zB
    have KA_14 := Lib.hid (KA_10.out.step b2)
    clear KA_10
    have KB_15 := Lib.hid (KB_11.out.step b2)
    clear KB_11
    have KC_16 := Lib.hid (KC_12.out.step b2)
    clear KC_12
    have HB17 := Lib.hid (keep2 b2 HB13.out)
    clear HB13 b2
    have KA_18 := Lib.hid (KA_14.out.alloc (.cells #[.int .i64 0, .int .i64 0] 23))
    clear KA_14
    have KB_19 := Lib.hid (KB_15.out.alloc (.cells #[.int .i64 0, .int .i64 0] 23))
    clear KB_15
    have KC_20 := Lib.hid (KC_16.out.alloc (.cells #[.int .i64 0, .int .i64 0] 23))
    clear KC_16
    have KM_21 := Lib.hid (TwoAt.new u2 (u2.heap.size) (0) (0) 23 (by simp))
    have HB22 : Hid (Below w.heap.size w (u2.alloc (.cells #[.int .i64 0, .int .i64 0] 23))) := HB17.out.alloc HB17.out.size _
    clear HB17
    obtain ⟨⟨xA, yA⟩, zA⟩ := KA_18.out
    obtain ⟨⟨xB, yB⟩, zB⟩ := KB_19.out
    go_wp2_with fail
    refine (meet_at c d a b 0 0 false _ ⟨HM.out.1.trans M.out.1, HM.out.2.1.trans M.out.2.1, HM.out.2.2.trans M.out.2.2⟩).mono ?_
    rintro e u3 ⟨rfl, b3⟩
    clear xA yA zA xB yB zB
    have KA_23 := Lib.hid (KA_18.out.step b3)
    clear KA_18
    have KB_24 := Lib.hid (KB_19.out.step b3)
    clear KB_19
    have KC_25 := Lib.hid (KC_20.out.step b3)
    clear KC_20
    have KM_26 := Lib.hid (KM_21.out.step b3)
    clear KM_21
    have HB27 := Lib.hid (keep2 b3 HB22.out)
    clear HB22 b3
    have KA_28 := Lib.hid (KA_23.out.alloc (.cells #[.int .i64 0, .int .i64 0] 23))
    clear KA_23
    have KB_29 := Lib.hid (KB_24.out.alloc (.cells #[.int .i64 0, .int .i64 0] 23))
    clear KB_24
    have KC_30 := Lib.hid (KC_25.out.alloc (.cells #[.int .i64 0, .int .i64 0] 23))
    clear KC_25
    have KM_31 := Lib.hid (KM_26.out.alloc (.cells #[.int .i64 0, .int .i64 0] 23))
    clear KM_26
    have KN_32 := Lib.hid (TwoAt.new u3 (u3.heap.size) (0) (0) 23 (by simp))
    have HB33 : Hid (Below w.heap.size w (u3.alloc (.cells #[.int .i64 0, .int .i64 0] 23))) := HB27.out.alloc HB27.out.size _
    clear HB27
    obtain ⟨⟨xA, yA⟩, zA⟩ := KA_28.out
    obtain ⟨⟨xB, yB⟩, zB⟩ := KB_29.out
    go_wp2_with fail
    refine (before_at a b c d _ _ H1.out).mono ?_
    rintro e u4 ⟨rfl, b4⟩
    clear xA yA zA xB yB zB
    have KA_34 := Lib.hid (KA_28.out.step b4)
    clear KA_28
    have KB_35 := Lib.hid (KB_29.out.step b4)
    clear KB_29
    have KC_36 := Lib.hid (KC_30.out.step b4)
    clear KC_30
    have KM_37 := Lib.hid (KM_31.out.step b4)
    clear KM_31
    have KN_38 := Lib.hid (KN_32.out.step b4)
    clear KN_32
    have HB39 := Lib.hid (keep2 b4 HB33.out)
    clear HB33 b4
    obtain ⟨⟨xA, yA⟩, zA⟩ := KA_34.out
    obtain ⟨⟨xB, yB⟩, zB⟩ := KB_35.out
    go_wp2_with fail
    refine (before_at c d a b _ _ H2.out).mono ?_
    rintro e u5 ⟨rfl, b5⟩
    clear xA yA zA xB yB zB
    have KA_40 := Lib.hid (KA_34.out.step b5)
    clear KA_34
    have KB_41 := Lib.hid (KB_35.out.step b5)
    clear KB_35
    have KC_42 := Lib.hid (KC_36.out.step b5)
    clear KC_36
    have KM_43 := Lib.hid (KM_37.out.step b5)
    clear KM_37
    have KN_44 := Lib.hid (KN_38.out.step b5)
    clear KN_38
    have HB45 := Lib.hid (keep2 b5 HB39.out)
    clear HB39 b5
    obtain ⟨⟨xA, yA⟩, zA⟩ := KA_40.out
    obtain ⟨⟨xB, yB⟩, zB⟩ := KB_41.out
    go_wp2_with fail
    refine (before_at a b a b _ _ HS.out).mono ?_
    rintro e u6 ⟨rfl, b6⟩
    clear xA yA zA xB yB zB
    have KA_46 := Lib.hid (KA_40.out.step b6)
    clear KA_40
    have KB_47 := Lib.hid (KB_41.out.step b6)
    clear KB_41
    have KC_48 := Lib.hid (KC_42.out.step b6)
    clear KC_42
    have KM_49 := Lib.hid (KM_43.out.step b6)
    clear KM_43
    have KN_50 := Lib.hid (KN_44.out.step b6)
    clear KN_44
    have HB51 := Lib.hid (keep2 b6 HB45.out)
    clear HB45 b6
    obtain ⟨⟨xA, yA⟩, zA⟩ := KA_46.out
    obtain ⟨⟨xB, yB⟩, zB⟩ := KB_47.out
    obtain ⟨⟨xC, yC⟩, zC⟩ := KC_48.out
    obtain ⟨⟨xM, yM⟩, zM⟩ := KM_49.out
    obtain ⟨⟨xN, yN⟩, zN⟩ := KN_50.out
    go_wp2_with fail
    refine (before_at c d f g _ _ H4.out).mono ?_
    rintro e u7 ⟨rfl, b7⟩
    clear xA yA zA xB yB zB xC yC zC xM yM zM xN yN zN
    have KA_52 := Lib.hid (KA_46.out.step b7)
    clear KA_46
    have KB_53 := Lib.hid (KB_47.out.step b7)
    clear KB_47
    have KC_54 := Lib.hid (KC_48.out.step b7)
    clear KC_48
    have KM_55 := Lib.hid (KM_49.out.step b7)
    clear KM_49
    have KN_56 := Lib.hid (KN_50.out.step b7)
    clear KN_50
    have HB57 := Lib.hid (keep2 b7 HB51.out)
    clear HB51 b7
    obtain ⟨⟨xA, yA⟩, zA⟩ := KA_52.out
    obtain ⟨⟨xB, yB⟩, zB⟩ := KB_53.out
    obtain ⟨⟨xC, yC⟩, zC⟩ := KC_54.out
    obtain ⟨⟨xM, yM⟩, zM⟩ := KM_55.out
    obtain ⟨⟨xN, yN⟩, zN⟩ := KN_56.out
    go_wp2_with fail
    refine (before_at a b f g _ _ H5.out).mono ?_
    rintro e u8 ⟨rfl, b8⟩
    clear xA yA zA xB yB zB xC yC zC xM yM zM xN yN zN
    have KA_58 := Lib.hid (KA_52.out.step b8)
    clear KA_52
    have KB_59 := Lib.hid (KB_53.out.step b8)
    clear KB_53
    have KC_60 := Lib.hid (KC_54.out.step b8)
    clear KC_54
    have KM_61 := Lib.hid (KM_55.out.step b8)
    clear KM_55
    have KN_62 := Lib.hid (KN_56.out.step b8)
    clear KN_56
    have HB63 := Lib.hid (keep2 b8 HB57.out)
    clear HB57 b8
    obtain ⟨⟨xA, yA⟩, zA⟩ := KA_58.out
    obtain ⟨⟨xB, yB⟩, zB⟩ := KB_59.out
    obtain ⟨⟨xC, yC⟩, zC⟩ := KC_60.out
    obtain ⟨⟨xM, yM⟩, zM⟩ := KM_61.out
    obtain ⟨⟨xN, yN⟩, zN⟩ := KN_62.out
    go_wp2_with fail
    refine (valid_at a b _ _ RA.out).mono ?_
    rintro e u9 ⟨rfl, b9⟩
    clear xA yA zA xB yB zB xC yC zC xM yM zM xN yN zN
    have KA_64 := Lib.hid (KA_58.out.step b9)
    clear KA_58
    have KB_65 := Lib.hid (KB_59.out.step b9)
    clear KB_59
    have KC_66 := Lib.hid (KC_60.out.step b9)
    clear KC_60
    have KM_67 := Lib.hid (KM_61.out.step b9)
    clear KM_61
    have KN_68 := Lib.hid (KN_62.out.step b9)
    clear KN_62
    have HB69 := Lib.hid (keep2 b9 HB63.out)
    clear HB63 b9
    obtain ⟨⟨xA, yA⟩, zA⟩ := KA_64.out
    obtain ⟨⟨xB, yB⟩, zB⟩ := KB_65.out
    obtain ⟨⟨xC, yC⟩, zC⟩ := KC_66.out
    obtain ⟨⟨xM, yM⟩, zM⟩ := KM_67.out
    obtain ⟨⟨xN, yN⟩, zN⟩ := KN_68.out
    go_wp2_with fail
    refine (valid_at c d _ _ RB.out).mono ?_
    rintro e u10 ⟨rfl, b10⟩
    clear xA yA zA xB yB zB xC yC zC xM yM zM xN yN zN
    have KA_70 := Lib.hid (KA_64.out.step b10)
    clear KA_64
    have KB_71 := Lib.hid (KB_65.out.step b10)
    clear KB_65
    have KC_72 := Lib.hid (KC_66.out.step b10)
    clear KC_66
    have KM_73 := Lib.hid (KM_67.out.step b10)
    clear KM_67
    have KN_74 := Lib.hid (KN_68.out.step b10)
    clear KN_68
    have HB75 := Lib.hid (keep2 b10 HB69.out)
    clear HB69 b10
    obtain ⟨⟨xA, yA⟩, zA⟩ := KA_70.out
    obtain ⟨⟨xB, yB⟩, zB⟩ := KB_71.out
    obtain ⟨⟨xC, yC⟩, zC⟩ := KC_72.out
    obtain ⟨⟨xM, yM⟩, zM⟩ := KM_73.out
    obtain ⟨⟨xN, yN⟩, zN⟩ := KN_74.out
    go_wp2_with fail
    go_ret
    exact ⟨rfl, HB75.out⟩
  · have M := Lib.hid (m_no h3)
    have H1 := Lib.hid h1
    have H2 := Lib.hid h2
    have RA := Lib.hid ra
    have RB := Lib.hid rb
    clear h1 h2 h3 ra rb
    have HB0 := Lib.hid (Below.refl w.heap.size w)
    go_enter Try.func7, Try.ntmps7
    have KA_1 := Lib.hid (TwoAt.new w (w.heap.size) (a) (b) 23 (by simp))
    have HB2 : Hid (Below w.heap.size w (w.alloc (.cells #[.int .i64 a, .int .i64 b] 23))) := HB0.out.alloc HB0.out.size _
    clear HB0
    have KA_3 := Lib.hid (KA_1.out.alloc (.cells #[.int .i64 c, .int .i64 d] 23))
    clear KA_1
    have KB_4 := Lib.hid (TwoAt.new (w.alloc (.cells #[.int .i64 a, .int .i64 b] 23)) (w.heap.size + 1) (c) (d) 23 (by simp))
    have HB5 : Hid (Below w.heap.size w ((w.alloc (.cells #[.int .i64 a, .int .i64 b] 23)).alloc (.cells #[.int .i64 c, .int .i64 d] 23))) := HB2.out.alloc HB2.out.size _
    clear HB2
    have KA_6 := Lib.hid (KA_3.out.alloc (.cells #[.int .i64 f, .int .i64 g] 23))
    clear KA_3
    have KB_7 := Lib.hid (KB_4.out.alloc (.cells #[.int .i64 f, .int .i64 g] 23))
    clear KB_4
    have KC_8 := Lib.hid (TwoAt.new ((w.alloc (.cells #[.int .i64 a, .int .i64 b] 23)).alloc (.cells #[.int .i64 c, .int .i64 d] 23)) (w.heap.size + 1 + 1) (f) (g) 23 (by simp))
    have HB9 : Hid (Below w.heap.size w (((w.alloc (.cells #[.int .i64 a, .int .i64 b] 23)).alloc (.cells #[.int .i64 c, .int .i64 d] 23)).alloc (.cells #[.int .i64 f, .int .i64 g] 23))) := HB5.out.alloc HB5.out.size _
    clear HB5
    go_wp2_with fail
    refine (head_any _).mono ?_
    rintro e u1 ⟨rfl, b1⟩
    have KA_10 := Lib.hid (KA_6.out.step b1)
    clear KA_6
    have KB_11 := Lib.hid (KB_7.out.step b1)
    clear KB_7
    have KC_12 := Lib.hid (KC_8.out.step b1)
    clear KC_8
    have HB13 := Lib.hid (keep2 b1 HB9.out)
    clear HB9 b1
    obtain ⟨⟨xA, yA⟩, zA⟩ := KA_10.out
    obtain ⟨⟨xB, yB⟩, zB⟩ := KB_11.out
    go_wp2_with fail
    refine (meet_at a b c d 0 0 false _ M.out).mono ?_
    rintro e u2 ⟨rfl, b2⟩
    clear xA yA zA xB yB zB
    have KA_14 := Lib.hid (KA_10.out.step b2)
    clear KA_10
    have KB_15 := Lib.hid (KB_11.out.step b2)
    clear KB_11
    have KC_16 := Lib.hid (KC_12.out.step b2)
    clear KC_12
    have HB17 := Lib.hid (keep2 b2 HB13.out)
    clear HB13 b2
    have KA_18 := Lib.hid (KA_14.out.alloc (.cells #[.int .i64 0, .int .i64 0] 23))
    clear KA_14
    have KB_19 := Lib.hid (KB_15.out.alloc (.cells #[.int .i64 0, .int .i64 0] 23))
    clear KB_15
    have KC_20 := Lib.hid (KC_16.out.alloc (.cells #[.int .i64 0, .int .i64 0] 23))
    clear KC_16
    have KM_21 := Lib.hid (TwoAt.new u2 (u2.heap.size) (0) (0) 23 (by simp))
    have HB22 : Hid (Below w.heap.size w (u2.alloc (.cells #[.int .i64 0, .int .i64 0] 23))) := HB17.out.alloc HB17.out.size _
    clear HB17
    obtain ⟨⟨xA, yA⟩, zA⟩ := KA_18.out
    obtain ⟨⟨xB, yB⟩, zB⟩ := KB_19.out
    go_wp2_with fail
    refine (meet_at c d a b 0 0 false _ ⟨HM.out.1.trans M.out.1, HM.out.2.1.trans M.out.2.1, HM.out.2.2.trans M.out.2.2⟩).mono ?_
    rintro e u3 ⟨rfl, b3⟩
    clear xA yA zA xB yB zB
    have KA_23 := Lib.hid (KA_18.out.step b3)
    clear KA_18
    have KB_24 := Lib.hid (KB_19.out.step b3)
    clear KB_19
    have KC_25 := Lib.hid (KC_20.out.step b3)
    clear KC_20
    have KM_26 := Lib.hid (KM_21.out.step b3)
    clear KM_21
    have HB27 := Lib.hid (keep2 b3 HB22.out)
    clear HB22 b3
    have KA_28 := Lib.hid (KA_23.out.alloc (.cells #[.int .i64 0, .int .i64 0] 23))
    clear KA_23
    have KB_29 := Lib.hid (KB_24.out.alloc (.cells #[.int .i64 0, .int .i64 0] 23))
    clear KB_24
    have KC_30 := Lib.hid (KC_25.out.alloc (.cells #[.int .i64 0, .int .i64 0] 23))
    clear KC_25
    have KM_31 := Lib.hid (KM_26.out.alloc (.cells #[.int .i64 0, .int .i64 0] 23))
    clear KM_26
    have KN_32 := Lib.hid (TwoAt.new u3 (u3.heap.size) (0) (0) 23 (by simp))
    have HB33 : Hid (Below w.heap.size w (u3.alloc (.cells #[.int .i64 0, .int .i64 0] 23))) := HB27.out.alloc HB27.out.size _
    clear HB27
    obtain ⟨⟨xA, yA⟩, zA⟩ := KA_28.out
    obtain ⟨⟨xB, yB⟩, zB⟩ := KB_29.out
    go_wp2_with fail
    refine (before_at a b c d _ _ H1.out).mono ?_
    rintro e u4 ⟨rfl, b4⟩
    clear xA yA zA xB yB zB
    have KA_34 := Lib.hid (KA_28.out.step b4)
    clear KA_28
    have KB_35 := Lib.hid (KB_29.out.step b4)
    clear KB_29
    have KC_36 := Lib.hid (KC_30.out.step b4)
    clear KC_30
    have KM_37 := Lib.hid (KM_31.out.step b4)
    clear KM_31
    have KN_38 := Lib.hid (KN_32.out.step b4)
    clear KN_32
    have HB39 := Lib.hid (keep2 b4 HB33.out)
    clear HB33 b4
    obtain ⟨⟨xA, yA⟩, zA⟩ := KA_34.out
    obtain ⟨⟨xB, yB⟩, zB⟩ := KB_35.out
    go_wp2_with fail
    refine (before_at c d a b _ _ H2.out).mono ?_
    rintro e u5 ⟨rfl, b5⟩
    clear xA yA zA xB yB zB
    have KA_40 := Lib.hid (KA_34.out.step b5)
    clear KA_34
    have KB_41 := Lib.hid (KB_35.out.step b5)
    clear KB_35
    have KC_42 := Lib.hid (KC_36.out.step b5)
    clear KC_36
    have KM_43 := Lib.hid (KM_37.out.step b5)
    clear KM_37
    have KN_44 := Lib.hid (KN_38.out.step b5)
    clear KN_38
    have HB45 := Lib.hid (keep2 b5 HB39.out)
    clear HB39 b5
    obtain ⟨⟨xA, yA⟩, zA⟩ := KA_40.out
    obtain ⟨⟨xB, yB⟩, zB⟩ := KB_41.out
    go_wp2_with fail
    refine (before_at a b a b _ _ HS.out).mono ?_
    rintro e u6 ⟨rfl, b6⟩
    clear xA yA zA xB yB zB
    have KA_46 := Lib.hid (KA_40.out.step b6)
    clear KA_40
    have KB_47 := Lib.hid (KB_41.out.step b6)
    clear KB_41
    have KC_48 := Lib.hid (KC_42.out.step b6)
    clear KC_42
    have KM_49 := Lib.hid (KM_43.out.step b6)
    clear KM_43
    have KN_50 := Lib.hid (KN_44.out.step b6)
    clear KN_44
    have HB51 := Lib.hid (keep2 b6 HB45.out)
    clear HB45 b6
    obtain ⟨⟨xA, yA⟩, zA⟩ := KA_46.out
    obtain ⟨⟨xB, yB⟩, zB⟩ := KB_47.out
    obtain ⟨⟨xC, yC⟩, zC⟩ := KC_48.out
    obtain ⟨⟨xM, yM⟩, zM⟩ := KM_49.out
    obtain ⟨⟨xN, yN⟩, zN⟩ := KN_50.out
    go_wp2_with fail
    refine (valid_at a b _ _ RA.out).mono ?_
    rintro e u7 ⟨rfl, b7⟩
    clear xA yA zA xB yB zB xC yC zC xM yM zM xN yN zN
    have KA_52 := Lib.hid (KA_46.out.step b7)
    clear KA_46
    have KB_53 := Lib.hid (KB_47.out.step b7)
    clear KB_47
    have KC_54 := Lib.hid (KC_48.out.step b7)
    clear KC_48
    have KM_55 := Lib.hid (KM_49.out.step b7)
    clear KM_49
    have KN_56 := Lib.hid (KN_50.out.step b7)
    clear KN_50
    have HB57 := Lib.hid (keep2 b7 HB51.out)
    clear HB51 b7
    obtain ⟨⟨xA, yA⟩, zA⟩ := KA_52.out
    obtain ⟨⟨xB, yB⟩, zB⟩ := KB_53.out
    obtain ⟨⟨xC, yC⟩, zC⟩ := KC_54.out
    obtain ⟨⟨xM, yM⟩, zM⟩ := KM_55.out
    obtain ⟨⟨xN, yN⟩, zN⟩ := KN_56.out
    go_wp2_with fail
    refine (valid_at c d _ _ RB.out).mono ?_
    rintro e u8 ⟨rfl, b8⟩
    clear xA yA zA xB yB zB xC yC zC xM yM zM xN yN zN
    have KA_58 := Lib.hid (KA_52.out.step b8)
    clear KA_52
    have KB_59 := Lib.hid (KB_53.out.step b8)
    clear KB_53
    have KC_60 := Lib.hid (KC_54.out.step b8)
    clear KC_54
    have KM_61 := Lib.hid (KM_55.out.step b8)
    clear KM_55
    have KN_62 := Lib.hid (KN_56.out.step b8)
    clear KN_56
    have HB63 := Lib.hid (keep2 b8 HB57.out)
    clear HB57 b8
    obtain ⟨⟨xA, yA⟩, zA⟩ := KA_58.out
    obtain ⟨⟨xB, yB⟩, zB⟩ := KB_59.out
    obtain ⟨⟨xC, yC⟩, zC⟩ := KC_60.out
    obtain ⟨⟨xM, yM⟩, zM⟩ := KM_61.out
    obtain ⟨⟨xN, yN⟩, zN⟩ := KN_62.out
    go_wp2_with fail
    go_ret
    exact ⟨rfl, HB63.out⟩
  · have M := Lib.hid h3
    have H1 := Lib.hid h1
    have H2 := Lib.hid h2
    have RA := Lib.hid ra
    have RB := Lib.hid rb
    clear h1 h2 h3 ra rb
    have HB0 := Lib.hid (Below.refl w.heap.size w)
    go_enter Try.func7, Try.ntmps7
    have KA_1 := Lib.hid (TwoAt.new w (w.heap.size) (a) (b) 23 (by simp))
    have HB2 : Hid (Below w.heap.size w (w.alloc (.cells #[.int .i64 a, .int .i64 b] 23))) := HB0.out.alloc HB0.out.size _
    clear HB0
    have KA_3 := Lib.hid (KA_1.out.alloc (.cells #[.int .i64 c, .int .i64 d] 23))
    clear KA_1
    have KB_4 := Lib.hid (TwoAt.new (w.alloc (.cells #[.int .i64 a, .int .i64 b] 23)) (w.heap.size + 1) (c) (d) 23 (by simp))
    have HB5 : Hid (Below w.heap.size w ((w.alloc (.cells #[.int .i64 a, .int .i64 b] 23)).alloc (.cells #[.int .i64 c, .int .i64 d] 23))) := HB2.out.alloc HB2.out.size _
    clear HB2
    have KA_6 := Lib.hid (KA_3.out.alloc (.cells #[.int .i64 f, .int .i64 g] 23))
    clear KA_3
    have KB_7 := Lib.hid (KB_4.out.alloc (.cells #[.int .i64 f, .int .i64 g] 23))
    clear KB_4
    have KC_8 := Lib.hid (TwoAt.new ((w.alloc (.cells #[.int .i64 a, .int .i64 b] 23)).alloc (.cells #[.int .i64 c, .int .i64 d] 23)) (w.heap.size + 1 + 1) (f) (g) 23 (by simp))
    have HB9 : Hid (Below w.heap.size w (((w.alloc (.cells #[.int .i64 a, .int .i64 b] 23)).alloc (.cells #[.int .i64 c, .int .i64 d] 23)).alloc (.cells #[.int .i64 f, .int .i64 g] 23))) := HB5.out.alloc HB5.out.size _
    clear HB5
    go_wp2_with fail
    refine (head_any _).mono ?_
    rintro e u1 ⟨rfl, b1⟩
    have KA_10 := Lib.hid (KA_6.out.step b1)
    clear KA_6
    have KB_11 := Lib.hid (KB_7.out.step b1)
    clear KB_7
    have KC_12 := Lib.hid (KC_8.out.step b1)
    clear KC_8
    have HB13 := Lib.hid (keep2 b1 HB9.out)
    clear HB9 b1
    obtain ⟨⟨xA, yA⟩, zA⟩ := KA_10.out
    obtain ⟨⟨xB, yB⟩, zB⟩ := KB_11.out
    go_wp2_with fail
    refine (meet_at a b c d x y true _ M.out).mono ?_
    rintro e u2 ⟨rfl, b2⟩
    clear xA yA zA xB yB zB
    have KA_14 := Lib.hid (KA_10.out.step b2)
    clear KA_10
    have KB_15 := Lib.hid (KB_11.out.step b2)
    clear KB_11
    have KC_16 := Lib.hid (KC_12.out.step b2)
    clear KC_12
    have HB17 := Lib.hid (keep2 b2 HB13.out)
    clear HB13 b2
    have KA_18 := Lib.hid (KA_14.out.alloc (.cells #[.int .i64 x, .int .i64 y] 23))
    clear KA_14
    have KB_19 := Lib.hid (KB_15.out.alloc (.cells #[.int .i64 x, .int .i64 y] 23))
    clear KB_15
    have KC_20 := Lib.hid (KC_16.out.alloc (.cells #[.int .i64 x, .int .i64 y] 23))
    clear KC_16
    have KM_21 := Lib.hid (TwoAt.new u2 (u2.heap.size) (x) (y) 23 (by simp))
    have HB22 : Hid (Below w.heap.size w (u2.alloc (.cells #[.int .i64 x, .int .i64 y] 23))) := HB17.out.alloc HB17.out.size _
    clear HB17
    obtain ⟨⟨xA, yA⟩, zA⟩ := KA_18.out
    obtain ⟨⟨xB, yB⟩, zB⟩ := KB_19.out
    go_wp2_with fail
    refine (meet_at c d a b x y true _ ⟨HM.out.1.trans M.out.1, HM.out.2.1.trans M.out.2.1, HM.out.2.2.trans M.out.2.2⟩).mono ?_
    rintro e u3 ⟨rfl, b3⟩
    clear xA yA zA xB yB zB
    have KA_23 := Lib.hid (KA_18.out.step b3)
    clear KA_18
    have KB_24 := Lib.hid (KB_19.out.step b3)
    clear KB_19
    have KC_25 := Lib.hid (KC_20.out.step b3)
    clear KC_20
    have KM_26 := Lib.hid (KM_21.out.step b3)
    clear KM_21
    have HB27 := Lib.hid (keep2 b3 HB22.out)
    clear HB22 b3
    have KA_28 := Lib.hid (KA_23.out.alloc (.cells #[.int .i64 x, .int .i64 y] 23))
    clear KA_23
    have KB_29 := Lib.hid (KB_24.out.alloc (.cells #[.int .i64 x, .int .i64 y] 23))
    clear KB_24
    have KC_30 := Lib.hid (KC_25.out.alloc (.cells #[.int .i64 x, .int .i64 y] 23))
    clear KC_25
    have KM_31 := Lib.hid (KM_26.out.alloc (.cells #[.int .i64 x, .int .i64 y] 23))
    clear KM_26
    have KN_32 := Lib.hid (TwoAt.new u3 (u3.heap.size) (x) (y) 23 (by simp))
    have HB33 : Hid (Below w.heap.size w (u3.alloc (.cells #[.int .i64 x, .int .i64 y] 23))) := HB27.out.alloc HB27.out.size _
    clear HB27
    obtain ⟨⟨xA, yA⟩, zA⟩ := KA_28.out
    obtain ⟨⟨xB, yB⟩, zB⟩ := KB_29.out
    go_wp2_with fail
    refine (before_at a b c d _ _ H1.out).mono ?_
    rintro e u4 ⟨rfl, b4⟩
    clear xA yA zA xB yB zB
    have KA_34 := Lib.hid (KA_28.out.step b4)
    clear KA_28
    have KB_35 := Lib.hid (KB_29.out.step b4)
    clear KB_29
    have KC_36 := Lib.hid (KC_30.out.step b4)
    clear KC_30
    have KM_37 := Lib.hid (KM_31.out.step b4)
    clear KM_31
    have KN_38 := Lib.hid (KN_32.out.step b4)
    clear KN_32
    have HB39 := Lib.hid (keep2 b4 HB33.out)
    clear HB33 b4
    obtain ⟨⟨xA, yA⟩, zA⟩ := KA_34.out
    obtain ⟨⟨xB, yB⟩, zB⟩ := KB_35.out
    go_wp2_with fail
    refine (before_at c d a b _ _ H2.out).mono ?_
    rintro e u5 ⟨rfl, b5⟩
    clear xA yA zA xB yB zB
    have KA_40 := Lib.hid (KA_34.out.step b5)
    clear KA_34
    have KB_41 := Lib.hid (KB_35.out.step b5)
    clear KB_35
    have KC_42 := Lib.hid (KC_36.out.step b5)
    clear KC_36
    have KM_43 := Lib.hid (KM_37.out.step b5)
    clear KM_37
    have KN_44 := Lib.hid (KN_38.out.step b5)
    clear KN_38
    have HB45 := Lib.hid (keep2 b5 HB39.out)
    clear HB39 b5
    obtain ⟨⟨xA, yA⟩, zA⟩ := KA_40.out
    obtain ⟨⟨xB, yB⟩, zB⟩ := KB_41.out
    go_wp2_with fail
    refine (before_at a b a b _ _ HS.out).mono ?_
    rintro e u6 ⟨rfl, b6⟩
    clear xA yA zA xB yB zB
    have KA_46 := Lib.hid (KA_40.out.step b6)
    clear KA_40
    have KB_47 := Lib.hid (KB_41.out.step b6)
    clear KB_41
    have KC_48 := Lib.hid (KC_42.out.step b6)
    clear KC_42
    have KM_49 := Lib.hid (KM_43.out.step b6)
    clear KM_43
    have KN_50 := Lib.hid (KN_44.out.step b6)
    clear KN_44
    have HB51 := Lib.hid (keep2 b6 HB45.out)
    clear HB45 b6
    obtain ⟨⟨xA, yA⟩, zA⟩ := KA_46.out
    obtain ⟨⟨xB, yB⟩, zB⟩ := KB_47.out
    obtain ⟨⟨xC, yC⟩, zC⟩ := KC_48.out
    obtain ⟨⟨xM, yM⟩, zM⟩ := KM_49.out
    obtain ⟨⟨xN, yN⟩, zN⟩ := KN_50.out
    go_wp2_with fail
    refine (valid_at a b _ _ RA.out).mono ?_
    rintro e u7 ⟨rfl, b7⟩
    clear xA yA zA xB yB zB xC yC zC xM yM zM xN yN zN
    have KA_52 := Lib.hid (KA_46.out.step b7)
    clear KA_46
    have KB_53 := Lib.hid (KB_47.out.step b7)
    clear KB_47
    have KC_54 := Lib.hid (KC_48.out.step b7)
    clear KC_48
    have KM_55 := Lib.hid (KM_49.out.step b7)
    clear KM_49
    have KN_56 := Lib.hid (KN_50.out.step b7)
    clear KN_50
    have HB57 := Lib.hid (keep2 b7 HB51.out)
    clear HB51 b7
    obtain ⟨⟨xA, yA⟩, zA⟩ := KA_52.out
    obtain ⟨⟨xB, yB⟩, zB⟩ := KB_53.out
    obtain ⟨⟨xC, yC⟩, zC⟩ := KC_54.out
    obtain ⟨⟨xM, yM⟩, zM⟩ := KM_55.out
    obtain ⟨⟨xN, yN⟩, zN⟩ := KN_56.out
    go_wp2_with fail
    refine (valid_at c d _ _ RB.out).mono ?_
    rintro e u8 ⟨rfl, b8⟩
    clear xA yA zA xB yB zB xC yC zC xM yM zM xN yN zN
    have KA_58 := Lib.hid (KA_52.out.step b8)
    clear KA_52
    have KB_59 := Lib.hid (KB_53.out.step b8)
    clear KB_53
    have KC_60 := Lib.hid (KC_54.out.step b8)
    clear KC_54
    have KM_61 := Lib.hid (KM_55.out.step b8)
    clear KM_55
    have KN_62 := Lib.hid (KN_56.out.step b8)
    clear KN_56
    have HB63 := Lib.hid (keep2 b8 HB57.out)
    clear HB57 b8
    obtain ⟨⟨xA, yA⟩, zA⟩ := KA_58.out
    obtain ⟨⟨xB, yB⟩, zB⟩ := KB_59.out
    obtain ⟨⟨xC, yC⟩, zC⟩ := KC_60.out
    obtain ⟨⟨xM, yM⟩, zM⟩ := KM_61.out
    obtain ⟨⟨xN, yN⟩, zN⟩ := KN_62.out
    go_wp2_with fail
    go_ret
    exact ⟨rfl, HB63.out⟩
end Go.Proofs.Ytilaiingcddegaa
