/- The walk of DriftTruth. -/
import Derived.Test.YtilaiingcddegaaL
namespace Go.Proofs.Ytilaiingcddegaa
open Go.RowKit

theorem can_at (c p d : Int) (b : Bool) (w : World) (h1 : 0 ≤ p) (h2 : p ≤ 2000000000) (h3 : 0 ≤ d) (h4 : d ≤ 100000) (h5 : 0 ≤ c) (h6 : c ≤ 1000000000) (hb : can c p d = b) :
    Calls Try.prog 21 #[.int .i64 c, .int .i64 p, .int .i64 d] w fun e w' => e = .returned (.bool b) ∧ w = w' :=
  (can_any c p d _ h1 h2 h3 h4 h5 h6).mono fun e w' h => ⟨by rw [h.1, hb], h.2⟩
theorem n_ok {l h s d : Int} (he : nEr l h s d = 0) : (0 ≤ s ∧ s ≤ 1000000000 ∧ 0 ≤ d ∧ d ≤ 100000) ∧ rng (nLo l h s d) (nHi l h s d) = true ∧ nLo l h s d = l + lo s d ∧ nHi l h s d = h + hi s d := by
  rcases now_cases l h s d with ⟨_, _, _, h3⟩ | ⟨_, _, _, _, h3⟩ | ⟨hk, hh, h1, h2, _⟩
  · rw [h3] at he; omega
  · rw [h3] at he; omega
  · obtain ⟨-, ⟨a1, a2, a3⟩, ⟨a4, a5⟩, a6, a7⟩ := aOk_bd hk
    have g1 := lo_nonneg a4 a6
    have g2 := lo_self a4 a6
    have g3 := self_hi a4 a7 a6
    exact ⟨⟨a4, a5, a6, a7⟩, by rw [h1, h2, rng_iff]; omega, h1, h2⟩
theorem n_in {l h s d p t : Int} (he : nEr l h s d = 0) (hc : can s (t - p) d = true) (h1 : l ≤ p) (h2 : p ≤ h) : nLo l h s d ≤ t ∧ t ≤ nHi l h s d := by
  obtain ⟨⟨a4, a5, a6, a7⟩, -, e1, e2⟩ := n_ok he
  have := (can_iff a4 a6 a7 _).1 hc
  omega
theorem meets {a b c d t : Int} (h1 : rng a b = true) (h2 : rng c d = true) (g1 : a ≤ t) (g2 : t ≤ b) (g3 : c ≤ t) (g4 : t ≤ d) : (∃ x y, (mLo a b c d = x ∧ mHi a b c d = y ∧ mOk a b c d = true) ∧ x ≤ t ∧ t ≤ y) ∧ bF a b c d = false ∧ bF c d a b = false := by
  have hw := m_ways a b c d
  refine ⟨⟨_, _, m_yes (by unfold mOk; rw [h1, h2, Bool.true_and, Bool.true_and, decide_eq_true_iff]; omega), by omega, by omega⟩, ?_, ?_⟩
  · unfold bF; rw [h1, h2, Bool.true_and, Bool.true_and, decide_eq_false_iff_not]; omega
  · unfold bF; rw [h1, h2, Bool.true_and, Bool.true_and, decide_eq_false_iff_not]; omega

set_option maxRecDepth 100000 in
set_option maxHeartbeats 32000000 in
theorem truth_walk (a b c d p q t m n r : Int) (w : World) (hp : 0 ≤ p) (hp2 : p ≤ 4294967295) (hq : 0 ≤ q) (hq2 : q ≤ 4294967295) (ht : 0 ≤ t) (ht2 : t ≤ 4294967295) : Calls Try.prog 6 #[.agg #[.int .i64 a, .int .i64 b], .agg #[.int .i64 c, .int .i64 d], .int .u32 p, .int .u32 q, .int .u32 t, .int .i64 m, .int .i64 n, .int .i64 r] w fun e w' => e = .returned (.bool true) ∧ Below w.heap.size w w' := by
  have t1 : 0 ≤ p % 1000000001 := Int.emod_nonneg _ (by omega)
  have t2 : p % 1000000001 ≤ 1000000000 := by omega
  have t3 : 0 ≤ q % 1000000001 := Int.emod_nonneg _ (by omega)
  have t4 : q % 1000000001 ≤ 1000000000 := by omega
  have t5 : 0 ≤ t % 1000000001 := Int.emod_nonneg _ (by omega)
  have t6 : t % 1000000001 ≤ 1000000000 := by omega
  obtain ⟨x1, y1, e1, hn1⟩ : ∃ x y z, nLo a b m r = x ∧ nHi a b m r = y ∧ nEr a b m r = z := ⟨_, _, _, rfl, rfl, rfl⟩
  obtain ⟨x2, y2, e2, hn2⟩ : ∃ x y z, nLo c d n r = x ∧ nHi c d n r = y ∧ nEr c d n r = z := ⟨_, _, _, rfl, rfl, rfl⟩
  have HN1 := Lib.hid hn1
  have HN2 := Lib.hid hn2
  clear hn1 hn2
  have HB0 := Lib.hid (Below.refl w.heap.size w)
  go_enter Try.func6, Try.ntmps6
  have KA_1 := Lib.hid (TwoAt.new w (w.heap.size) (a) (b) 23 (by simp))
  have HB2 : Hid (Below w.heap.size w (w.alloc (.cells #[.int .i64 a, .int .i64 b] 23))) := HB0.out.alloc HB0.out.size _
  clear HB0
  have KA_3 := Lib.hid (KA_1.out.alloc (.cells #[.int .i64 c, .int .i64 d] 23))
  clear KA_1
  have KB_4 := Lib.hid (TwoAt.new (w.alloc (.cells #[.int .i64 a, .int .i64 b] 23)) (w.heap.size + 1) (c) (d) 23 (by simp))
  have HB5 : Hid (Below w.heap.size w ((w.alloc (.cells #[.int .i64 a, .int .i64 b] 23)).alloc (.cells #[.int .i64 c, .int .i64 d] 23))) := HB2.out.alloc HB2.out.size _
  clear HB2
  go_wp2_with fail
  refine (head_any _).mono ?_
  rintro e u1 ⟨rfl, b1⟩
  have KA_6 := Lib.hid (KA_3.out.step b1)
  clear KA_3
  have KB_7 := Lib.hid (KB_4.out.step b1)
  clear KB_4
  have HB8 := Lib.hid (keep2 b1 HB5.out)
  clear HB5 b1
  obtain ⟨⟨xA, yA⟩, zA⟩ := KA_6.out
  obtain ⟨⟨xB, yB⟩, zB⟩ := KB_7.out
  go_wp2_with fail
  generalize p % 1000000001 = p at *
  generalize q % 1000000001 = q at *
  generalize t % 1000000001 = t at *
  refine (now_at a b m r x1 y1 e1 _ HN1.out).mono ?_
  rintro e u2 ⟨rfl, b2⟩
  clear xA yA zA xB yB zB
  have KA_9 := Lib.hid (KA_6.out.step b2)
  clear KA_6
  have KB_10 := Lib.hid (KB_7.out.step b2)
  clear KB_7
  have HB11 := Lib.hid (keep2 b2 HB8.out)
  clear HB8 b2
  have KA_12 := Lib.hid (KA_9.out.alloc (.cells #[.int .i64 x1, .int .i64 y1] 23))
  clear KA_9
  have KB_13 := Lib.hid (KB_10.out.alloc (.cells #[.int .i64 x1, .int .i64 y1] 23))
  clear KB_10
  have KX_14 := Lib.hid (TwoAt.new u2 (u2.heap.size) (x1) (y1) 23 (by simp))
  have HB15 : Hid (Below w.heap.size w (u2.alloc (.cells #[.int .i64 x1, .int .i64 y1] 23))) := HB11.out.alloc HB11.out.size _
  clear HB11
  obtain ⟨⟨xA, yA⟩, zA⟩ := KA_12.out
  obtain ⟨⟨xB, yB⟩, zB⟩ := KB_13.out
  go_wp2_with fail
  refine (now_at c d n r x2 y2 e2 _ HN2.out).mono ?_
  rintro e u3 ⟨rfl, b3⟩
  clear xA yA zA xB yB zB
  have KA_16 := Lib.hid (KA_12.out.step b3)
  clear KA_12
  have KB_17 := Lib.hid (KB_13.out.step b3)
  clear KB_13
  have KX_18 := Lib.hid (KX_14.out.step b3)
  clear KX_14
  have HB19 := Lib.hid (keep2 b3 HB15.out)
  clear HB15 b3
  have KA_20 := Lib.hid (KA_16.out.alloc (.cells #[.int .i64 x2, .int .i64 y2] 23))
  clear KA_16
  have KB_21 := Lib.hid (KB_17.out.alloc (.cells #[.int .i64 x2, .int .i64 y2] 23))
  clear KB_17
  have KX_22 := Lib.hid (KX_18.out.alloc (.cells #[.int .i64 x2, .int .i64 y2] 23))
  clear KX_18
  have KY_23 := Lib.hid (TwoAt.new u3 (u3.heap.size) (x2) (y2) 23 (by simp))
  have HB24 : Hid (Below w.heap.size w (u3.alloc (.cells #[.int .i64 x2, .int .i64 y2] 23))) := HB19.out.alloc HB19.out.size _
  clear HB19
  obtain ⟨⟨xA, yA⟩, zA⟩ := KA_20.out
  obtain ⟨⟨xB, yB⟩, zB⟩ := KB_21.out
  obtain ⟨⟨xX, yX⟩, zX⟩ := KX_22.out
  obtain ⟨⟨xY, yY⟩, zY⟩ := KY_23.out
  by_cases f0 : (e1 != 0) = true
  · go_wp2
    go_ret
    exact ⟨rfl, HB24.out⟩
  have n0 : (e1 != 0) = false := by simpa using f0
  clear f0
  by_cases f1 : (e2 != 0) = true
  · go_wp2
    go_ret
    exact ⟨rfl, HB24.out⟩
  have n1 : (e2 != 0) = false := by simpa using f1
  clear f1
  by_cases f2 : t < p
  · go_wp2
    go_ret
    exact ⟨rfl, HB24.out⟩
  have n2 : p ≤ t := by omega
  clear f2
  by_cases f3 : t < q
  · go_wp2
    go_ret
    exact ⟨rfl, HB24.out⟩
  have n3 : q ≤ t := by omega
  clear f3
  by_cases f4 : p < a
  · go_wp2
    go_ret
    exact ⟨rfl, HB24.out⟩
  have n4 : a ≤ p := by omega
  clear f4
  by_cases f5 : b < p
  · go_wp2
    go_ret
    exact ⟨rfl, HB24.out⟩
  have n5 : p ≤ b := by omega
  clear f5
  by_cases f6 : q < c
  · go_wp2
    go_ret
    exact ⟨rfl, HB24.out⟩
  have n6 : c ≤ q := by omega
  clear f6
  by_cases f7 : d < q
  · go_wp2
    go_ret
    exact ⟨rfl, HB24.out⟩
  have n7 : q ≤ d := by omega
  clear f7
  have z1 : nEr a b m r = 0 := HN1.out.2.2.trans (by simpa using n0)
  have z2 : nEr c d n r = 0 := HN2.out.2.2.trans (by simpa using n1)
  have Z1 := Lib.hid z1
  have Z2 := Lib.hid z2
  clear z1 z2
  obtain ⟨⟨b1, b2, b3, b4⟩, -⟩ := n_ok Z1.out
  obtain ⟨⟨b5, b6, -, -⟩, -⟩ := n_ok Z2.out
  have b7 : 0 ≤ t - p := by omega
  have b8 : t - p ≤ 2000000000 := by omega
  have b9 : 0 ≤ t - q := by omega
  have b10 : t - q ≤ 2000000000 := by omega
  go_wp2_with fail
  cases hc1 : can m (t - p) r
  · have C1 := Lib.hid hc1
    clear hc1
    refine (can_at m (t - p) r false _ b7 b8 b3 b4 b1 b2 C1.out).mono ?_
    rintro e v ⟨rfl, rfl⟩
    go_wp2
    go_ret
    exact ⟨rfl, HB24.out⟩
  · have C1 := Lib.hid hc1
    clear hc1
    refine (can_at m (t - p) r true _ b7 b8 b3 b4 b1 b2 C1.out).mono ?_
    rintro e v ⟨rfl, rfl⟩
    go_wp2_with fail
    cases hc2 : can n (t - q) r
    · have C2 := Lib.hid hc2
      clear hc2
      refine (can_at n (t - q) r false _ b9 b10 b3 b4 b5 b6 C2.out).mono ?_
      rintro e v ⟨rfl, rfl⟩
      go_wp2
      go_ret
      exact ⟨rfl, HB24.out⟩
    · have C2 := Lib.hid hc2
      clear hc2
      refine (can_at n (t - q) r true _ b9 b10 b3 b4 b5 b6 C2.out).mono ?_
      rintro e v ⟨rfl, rfl⟩
      have i1 := n_in Z1.out C1.out n4 n5
      have i2 := n_in Z2.out C2.out n6 n7
      have r1 := (n_ok Z1.out).2.1
      have r2 := (n_ok Z2.out).2.1
      rw [HN1.out.1, HN1.out.2.1] at i1 r1
      rw [HN2.out.1, HN2.out.2.1] at i2 r2
      obtain ⟨⟨x3, y3, hm, i3, i4⟩, hb1, hb2⟩ := meets r1 r2 i1.1 i1.2 i2.1 i2.2
      have HM := Lib.hid hm
      have HF1 := Lib.hid hb1
      have HF2 := Lib.hid hb2
      clear hm hb1 hb2 r1 r2
      obtain ⟨i5, i6⟩ := i1
      obtain ⟨i7, i8⟩ := i2
      go_wp2_with fail
      refine (meet_at x1 y1 x2 y2 x3 y3 true _ HM.out).mono ?_
      rintro e u4 ⟨rfl, b4⟩
      clear xA yA zA xB yB zB xX yX zX xY yY zY
      have KA_25 := Lib.hid (KA_20.out.step b4)
      clear KA_20
      have KB_26 := Lib.hid (KB_21.out.step b4)
      clear KB_21
      have KX_27 := Lib.hid (KX_22.out.step b4)
      clear KX_22
      have KY_28 := Lib.hid (KY_23.out.step b4)
      clear KY_23
      have HB29 := Lib.hid (keep2 b4 HB24.out)
      clear HB24 b4
      have KA_30 := Lib.hid (KA_25.out.alloc (.cells #[.int .i64 x3, .int .i64 y3] 23))
      clear KA_25
      have KB_31 := Lib.hid (KB_26.out.alloc (.cells #[.int .i64 x3, .int .i64 y3] 23))
      clear KB_26
      have KX_32 := Lib.hid (KX_27.out.alloc (.cells #[.int .i64 x3, .int .i64 y3] 23))
      clear KX_27
      have KY_33 := Lib.hid (KY_28.out.alloc (.cells #[.int .i64 x3, .int .i64 y3] 23))
      clear KY_28
      have KM_34 := Lib.hid (TwoAt.new u4 (u4.heap.size) (x3) (y3) 23 (by simp))
      have HB35 : Hid (Below w.heap.size w (u4.alloc (.cells #[.int .i64 x3, .int .i64 y3] 23))) := HB29.out.alloc HB29.out.size _
      clear HB29
      obtain ⟨⟨xA, yA⟩, zA⟩ := KA_30.out
      obtain ⟨⟨xB, yB⟩, zB⟩ := KB_31.out
      obtain ⟨⟨xX, yX⟩, zX⟩ := KX_32.out
      obtain ⟨⟨xY, yY⟩, zY⟩ := KY_33.out
      obtain ⟨⟨xM, yM⟩, zM⟩ := KM_34.out
      go_wp2_with fail
      refine (before_at x1 y1 x2 y2 _ _ HF1.out).mono ?_
      rintro e u5 ⟨rfl, b5⟩
      clear xA yA zA xB yB zB xX yX zX xY yY zY xM yM zM
      have KA_36 := Lib.hid (KA_30.out.step b5)
      clear KA_30
      have KB_37 := Lib.hid (KB_31.out.step b5)
      clear KB_31
      have KX_38 := Lib.hid (KX_32.out.step b5)
      clear KX_32
      have KY_39 := Lib.hid (KY_33.out.step b5)
      clear KY_33
      have KM_40 := Lib.hid (KM_34.out.step b5)
      clear KM_34
      have HB41 := Lib.hid (keep2 b5 HB35.out)
      clear HB35 b5
      obtain ⟨⟨xA, yA⟩, zA⟩ := KA_36.out
      obtain ⟨⟨xB, yB⟩, zB⟩ := KB_37.out
      obtain ⟨⟨xX, yX⟩, zX⟩ := KX_38.out
      obtain ⟨⟨xY, yY⟩, zY⟩ := KY_39.out
      obtain ⟨⟨xM, yM⟩, zM⟩ := KM_40.out
      go_wp2_with fail
      refine (before_at x2 y2 x1 y1 _ _ HF2.out).mono ?_
      rintro e u6 ⟨rfl, b6⟩
      clear xA yA zA xB yB zB xX yX zX xY yY zY xM yM zM
      have KA_42 := Lib.hid (KA_36.out.step b6)
      clear KA_36
      have KB_43 := Lib.hid (KB_37.out.step b6)
      clear KB_37
      have KX_44 := Lib.hid (KX_38.out.step b6)
      clear KX_38
      have KY_45 := Lib.hid (KY_39.out.step b6)
      clear KY_39
      have KM_46 := Lib.hid (KM_40.out.step b6)
      clear KM_40
      have HB47 := Lib.hid (keep2 b6 HB41.out)
      clear HB41 b6
      go_wp2_with fail
      go_ret
      exact ⟨rfl, HB47.out⟩
end Go.Proofs.Ytilaiingcddegaa
