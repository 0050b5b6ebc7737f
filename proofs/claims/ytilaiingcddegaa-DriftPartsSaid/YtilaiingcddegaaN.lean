/- The walk of DriftParts. -/
import Derived.Test.YtilaiingcddegaaK
namespace Go.Proofs.Ytilaiingcddegaa
open Go.RowKit

/-- The ways of two numbers of seconds and two drifts. -/
inductive PCase (x y d e : Int) : Prop
  | bad : sLo x d = 0 ∧ sHi x d = 0 ∧ sEr x d = 1 → sLo y d = 0 ∧ sHi y d = 0 ∧ sEr y d = 1 → sLo (x + y) d = 0 ∧ sHi (x + y) d = 0 ∧ sEr (x + y) d = 1 → PCase x y d e
  | ok (a1 a2 b1 b2 c1 c2 d1 d2 h : Int) : sLo x d = a1 ∧ sHi x d = a2 ∧ sEr x d = 0 → sLo y d = b1 ∧ sHi y d = b2 ∧ sEr y d = 0 → sLo (x + y) d = c1 ∧ sHi (x + y) d = c2 ∧ sEr (x + y) d = 0 →
      sLo x e = d1 ∧ sHi x e = d2 ∧ sEr x e = h → c1 ≤ a1 + b1 → a2 + b2 ≤ c2 → (0 ≤ a1 ∧ a1 ≤ 1200000000 ∧ 0 ≤ a2 ∧ a2 ≤ 1200000000) → (0 ≤ b1 ∧ b1 ≤ 1200000000 ∧ 0 ≤ b2 ∧ b2 ≤ 1200000000) → h = 1 ∨ (h = 0 ∧ e < d) ∨ (h = 0 ∧ d ≤ e ∧ d1 ≤ a1 ∧ a2 ≤ d2) → PCase x y d e
theorem sOk_in {x d : Int} (hx : 0 ≤ x) (hx2 : x ≤ 1000000000) : sOk x d = inB d 0 100000 := by
  unfold sOk
  rw [show inB x 0 1000000000 = true by unfold inB; simp [hx, hx2]]; rfl
theorem pcase {x y : Int} (d e : Int) (hx : 0 ≤ x) (hx2 : x ≤ 400000000) (hy : 0 ≤ y) (hy2 : y ≤ 400000000) : PCase x y d e := by
  have k1 : sOk x d = inB d 0 100000 := sOk_in hx (by omega)
  have k2 : sOk y d = inB d 0 100000 := sOk_in hy (by omega)
  have k3 : sOk (x + y) d = inB d 0 100000 := sOk_in (by omega) (by omega)
  have k4 : sOk x e = inB e 0 100000 := sOk_in hx (by omega)
  cases hd : inB d 0 100000
  · rw [hd] at k1 k2 k3
    exact .bad (s_no k1) (s_no k2) (s_no k3)
  · rw [hd] at k1 k2 k3
    obtain ⟨h0, h1⟩ : 0 ≤ d ∧ d ≤ 100000 := of_decide_eq_true hd
    refine .ok _ _ _ _ _ _ _ _ _ (s_of k1) (s_of k2) (s_of k3) ⟨rfl, rfl, rfl⟩ (lo_add hx hy h0) (hi_add hx hy h1)
      ⟨lo_nonneg hx h0, Int.le_trans (lo_bd hx h0 (by omega)) (by omega), hi_nonneg hx h1, hi_bd hx h1 h0 (by omega)⟩ ⟨lo_nonneg hy h0, Int.le_trans (lo_bd hy h0 (by omega)) (by omega), hi_nonneg hy h1, hi_bd hy h1 h0 (by omega)⟩ ?_
    cases he : inB e 0 100000
    · rw [he] at k4
      exact .inl (s_no k4).2.2
    · rw [he] at k4
      obtain ⟨h2, h3⟩ : 0 ≤ e ∧ e ≤ 100000 := of_decide_eq_true he
      obtain ⟨e1, e2, e3⟩ := s_of k4
      rw [e1, e2, e3]
      by_cases hde : e < d
      · exact .inr (.inl ⟨rfl, hde⟩)
      · exact .inr (.inr ⟨rfl, by omega, lo_more hx h0 (by omega), hi_more hx h3 (by omega)⟩)
theorem s_zero {x : Int} (hx : 0 ≤ x) (hx2 : x ≤ 400000000) : sLo x 0 = x ∧ sHi x 0 = x ∧ sEr x 0 = 0 := by
  have k : sOk x 0 = true := sOk_in hx (by omega)
  obtain ⟨a, b, c⟩ := s_of k
  exact ⟨a.trans (lo_zero hx), b.trans (hi_zero hx), c⟩

set_option maxRecDepth 100000 in
set_option maxHeartbeats 16000000 in
theorem parts_walk (p q d e : Int) (w : World) (hp : 0 ≤ p) (hp2 : p ≤ 4294967295) (hq : 0 ≤ q) (hq2 : q ≤ 4294967295) : Calls Try.prog 5 #[.int .u32 p, .int .u32 q, .int .i64 d, .int .i64 e] w fun e w' => e = .returned (.bool true) ∧ Below w.heap.size w w' := by
  have t1 : 0 ≤ p % 400000001 := Int.emod_nonneg _ (by omega)
  have t2 : p % 400000001 ≤ 400000000 := by omega
  have t3 : 0 ≤ q % 400000001 := Int.emod_nonneg _ (by omega)
  have t4 : q % 400000001 ≤ 400000000 := by omega
  have HB0 := Lib.hid (Below.refl w.heap.size w)
  go_enter Try.func5, Try.ntmps5
  go_wp2_with fail
  refine (head_any _).mono ?_
  rintro e u1 ⟨rfl, b1⟩
  have HB1 := Lib.hid (keep2 b1 HB0.out)
  clear HB0 b1
  go_wp2_with fail
  generalize p % 400000001 = x at *
  generalize q % 400000001 = y at *
  have HZ := Lib.hid (s_zero t1 t2)
  rcases pcase d e t1 t2 t3 t4 with ⟨k1, k2, k3⟩ | ⟨a1, a2, b1, b2, c1, c2, d1, d2, h, k1, k2, k3, k4, g1, g2, g3, g4, g5⟩
  · have K1 := Lib.hid k1
    have K2 := Lib.hid k2
    have K3 := Lib.hid k3
    clear k1 k2 k3
    refine (since_at x d 0 0 1 _ K1.out).mono ?_
    rintro e u2 ⟨rfl, b2⟩
    have HB2 := Lib.hid (keep2 b2 HB1.out)
    clear HB1 b2
    have HB3 : Hid (Below w.heap.size w (u2.alloc (.cells #[.int .i64 0, .int .i64 0] 23))) := HB2.out.alloc HB2.out.size _
    clear HB2
    go_wp2_with fail
    refine (since_at y d 0 0 1 _ K2.out).mono ?_
    rintro e u3 ⟨rfl, b3⟩
    have HB4 := Lib.hid (keep2 b3 HB3.out)
    clear HB3 b3
    have HB5 : Hid (Below w.heap.size w (u3.alloc (.cells #[.int .i64 0, .int .i64 0] 23))) := HB4.out.alloc HB4.out.size _
    clear HB4
    go_wp2_with fail
    refine (since_at (x + y) d 0 0 1 _ K3.out).mono ?_
    rintro e u4 ⟨rfl, b4⟩
    have HB6 := Lib.hid (keep2 b4 HB5.out)
    clear HB5 b4
    have HB7 : Hid (Below w.heap.size w (u4.alloc (.cells #[.int .i64 0, .int .i64 0] 23))) := HB6.out.alloc HB6.out.size _
    clear HB6
    go_wp2_with fail
    refine (since_any x e _).mono ?_
    rintro e u5 ⟨rfl, b5⟩
    have HB8 := Lib.hid (keep2 b5 HB7.out)
    clear HB7 b5
    have HB9 : Hid (Below w.heap.size w (u5.alloc (.cells #[.int .i64 (sLo x e), .int .i64 (sHi x e)] 23))) := HB8.out.alloc HB8.out.size _
    clear HB8
    go_wp2_with fail
    refine (since_at x 0 x x 0 _ HZ.out).mono ?_
    rintro e u6 ⟨rfl, b6⟩
    have HB10 := Lib.hid (keep2 b6 HB9.out)
    clear HB9 b6
    have HB11 : Hid (Below w.heap.size w (u6.alloc (.cells #[.int .i64 x, .int .i64 x] 23))) := HB10.out.alloc HB10.out.size _
    clear HB10
    go_wp2_with fail
    go_ret
    exact ⟨rfl, HB11.out⟩
  · have K1 := Lib.hid k1
    have K2 := Lib.hid k2
    have K3 := Lib.hid k3
    have K4 := Lib.hid k4
    clear k1 k2 k3 k4
    obtain ⟨g31, g32, g33, g34⟩ := g3
    obtain ⟨g41, g42, g43, g44⟩ := g4
    refine (since_at x d a1 a2 0 _ K1.out).mono ?_
    rintro e u2 ⟨rfl, b2⟩
    have HB2 := Lib.hid (keep2 b2 HB1.out)
    clear HB1 b2
    have KA_3 := Lib.hid (TwoAt.new u2 (u2.heap.size) (a1) (a2) 23 (by simp))
    have HB4 : Hid (Below w.heap.size w (u2.alloc (.cells #[.int .i64 a1, .int .i64 a2] 23))) := HB2.out.alloc HB2.out.size _
    clear HB2
    go_wp2_with fail
    refine (since_at y d b1 b2 0 _ K2.out).mono ?_
    rintro e u3 ⟨rfl, b3⟩
    have KA_5 := Lib.hid (KA_3.out.step b3)
    clear KA_3
    have HB6 := Lib.hid (keep2 b3 HB4.out)
    clear HB4 b3
    have KA_7 := Lib.hid (KA_5.out.alloc (.cells #[.int .i64 b1, .int .i64 b2] 23))
    clear KA_5
    have KB_8 := Lib.hid (TwoAt.new u3 (u3.heap.size) (b1) (b2) 23 (by simp))
    have HB9 : Hid (Below w.heap.size w (u3.alloc (.cells #[.int .i64 b1, .int .i64 b2] 23))) := HB6.out.alloc HB6.out.size _
    clear HB6
    go_wp2_with fail
    refine (since_at (x + y) d c1 c2 0 _ K3.out).mono ?_
    rintro e u4 ⟨rfl, b4⟩
    have KA_10 := Lib.hid (KA_7.out.step b4)
    clear KA_7
    have KB_11 := Lib.hid (KB_8.out.step b4)
    clear KB_8
    have HB12 := Lib.hid (keep2 b4 HB9.out)
    clear HB9 b4
    have KA_13 := Lib.hid (KA_10.out.alloc (.cells #[.int .i64 c1, .int .i64 c2] 23))
    clear KA_10
    have KB_14 := Lib.hid (KB_11.out.alloc (.cells #[.int .i64 c1, .int .i64 c2] 23))
    clear KB_11
    have KC_15 := Lib.hid (TwoAt.new u4 (u4.heap.size) (c1) (c2) 23 (by simp))
    have HB16 : Hid (Below w.heap.size w (u4.alloc (.cells #[.int .i64 c1, .int .i64 c2] 23))) := HB12.out.alloc HB12.out.size _
    clear HB12
    go_wp2_with fail
    refine (since_at x e d1 d2 h _ K4.out).mono ?_
    rintro e u5 ⟨rfl, b5⟩
    have KA_17 := Lib.hid (KA_13.out.step b5)
    clear KA_13
    have KB_18 := Lib.hid (KB_14.out.step b5)
    clear KB_14
    have KC_19 := Lib.hid (KC_15.out.step b5)
    clear KC_15
    have HB20 := Lib.hid (keep2 b5 HB16.out)
    clear HB16 b5
    have KA_21 := Lib.hid (KA_17.out.alloc (.cells #[.int .i64 d1, .int .i64 d2] 23))
    clear KA_17
    have KB_22 := Lib.hid (KB_18.out.alloc (.cells #[.int .i64 d1, .int .i64 d2] 23))
    clear KB_18
    have KC_23 := Lib.hid (KC_19.out.alloc (.cells #[.int .i64 d1, .int .i64 d2] 23))
    clear KC_19
    have KD_24 := Lib.hid (TwoAt.new u5 (u5.heap.size) (d1) (d2) 23 (by simp))
    have HB25 : Hid (Below w.heap.size w (u5.alloc (.cells #[.int .i64 d1, .int .i64 d2] 23))) := HB20.out.alloc HB20.out.size _
    clear HB20
    go_wp2_with fail
    refine (since_at x 0 x x 0 _ HZ.out).mono ?_
    rintro e u6 ⟨rfl, b6⟩
    have KA_26 := Lib.hid (KA_21.out.step b6)
    clear KA_21
    have KB_27 := Lib.hid (KB_22.out.step b6)
    clear KB_22
    have KC_28 := Lib.hid (KC_23.out.step b6)
    clear KC_23
    have KD_29 := Lib.hid (KD_24.out.step b6)
    clear KD_24
    have HB30 := Lib.hid (keep2 b6 HB25.out)
    clear HB25 b6
    have KA_31 := Lib.hid (KA_26.out.alloc (.cells #[.int .i64 x, .int .i64 x] 23))
    clear KA_26
    have KB_32 := Lib.hid (KB_27.out.alloc (.cells #[.int .i64 x, .int .i64 x] 23))
    clear KB_27
    have KC_33 := Lib.hid (KC_28.out.alloc (.cells #[.int .i64 x, .int .i64 x] 23))
    clear KC_28
    have KD_34 := Lib.hid (KD_29.out.alloc (.cells #[.int .i64 x, .int .i64 x] 23))
    clear KD_29
    have KZ_35 := Lib.hid (TwoAt.new u6 (u6.heap.size) (x) (x) 23 (by simp))
    have HB36 : Hid (Below w.heap.size w (u6.alloc (.cells #[.int .i64 x, .int .i64 x] 23))) := HB30.out.alloc HB30.out.size _
    clear HB30
    obtain ⟨⟨xA, yA⟩, zA⟩ := KA_31.out
    obtain ⟨⟨xB, yB⟩, zB⟩ := KB_32.out
    obtain ⟨⟨xC, yC⟩, zC⟩ := KC_33.out
    obtain ⟨⟨xD, yD⟩, zD⟩ := KD_34.out
    obtain ⟨⟨xZ, yZ⟩, zZ⟩ := KZ_35.out
    rcases g5 with g5 | ⟨g5, g6⟩ | ⟨g5, g6, g7, g8⟩
    all_goals
      subst g5
      go_wp2
      go_ret
      exact ⟨rfl, HB36.out⟩
end Go.Proofs.Ytilaiingcddegaa
