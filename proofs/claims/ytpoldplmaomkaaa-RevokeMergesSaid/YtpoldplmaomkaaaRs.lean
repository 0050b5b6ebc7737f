/- Sets of tags: law RevokeMerges. -/
import Derived.Test.YtpoldplmaomkaaaRo
namespace Go.Proofs.Ytpoldplmaomkaaa
open Go.RowKit

theorem mg_fit {a b : List Int} (ha : stB a = true) (hb : stB b = true) (h : a.length + b.length ≤ 400) : mgE a b = 0 ∧ mgL a b = mg a b ∧ stB (mg a b) = true := by
  have hl := mg_len a b
  have h4 : (mg a b).length ≤ 400 := by omega
  have e : mgE a b = 0 := by unfold mgE; rw [ha, hb]; simp [h4]
  exact ⟨e, by unfold mgL; rw [e]; rfl, mg_st ha hb h4⟩
theorem hs_mg {a b : List Int} (ha : stB a = true) (hb : stB b = true) (hm : stB (mg a b) = true) (y : Int) : hsB (mg a b) y = (hsB a y || hsB b y) := by
  unfold hsB
  rw [ha, hb, hm, Bool.true_and, Bool.true_and, Bool.true_and, Bool.eq_iff_iff, Bool.or_eq_true, inB_iff, inB_iff, inB_iff, mem_mg]
theorem merge_facts {m n p : List Int} (tag : Int) (h1 : stB m = true) (h2 : stB n = true) (h3 : stB p = true) (l1 : m.length ≤ 50) (l2 : n.length ≤ 50) (l3 : p.length ≤ 50) :
    ∃ AB BC LL, ((mgE m n = 0 ∧ mgL m n = AB) ∧ (mgE n m = 0 ∧ mgL n m = AB) ∧ (mgE n p = 0 ∧ mgL n p = BC)) ∧ ((mgE AB p = 0 ∧ mgL AB p = LL) ∧ (mgE m BC = 0 ∧ mgL m BC = LL) ∧ (mgE m m = 0 ∧ mgL m m = m)) ∧ stB AB = true ∧ hsB AB tag = (hsB m tag || hsB n tag) := by
  obtain ⟨a1, a2, a3⟩ := mg_fit h1 h2 (by omega)
  obtain ⟨b1, b2, b3⟩ := mg_fit h2 h1 (by omega)
  obtain ⟨c1, c2, c3⟩ := mg_fit h2 h3 (by omega)
  have k1 := mg_len m n
  have k2 := mg_len n p
  obtain ⟨d1, d2, d3⟩ := mg_fit a3 h3 (by omega)
  obtain ⟨e1, e2, e3⟩ := mg_fit h1 c3 (by omega)
  obtain ⟨f1, f2, f3⟩ := mg_fit h1 h1 (by omega)
  exact ⟨mg m n, mg n p, mg (mg m n) p, ⟨⟨a1, a2⟩, ⟨b1, by rw [b2, mg_comm h2 h1]⟩, ⟨c1, c2⟩⟩, ⟨⟨d1, d2⟩, ⟨e1, by rw [e2, mg_assoc h1 h2 h3]⟩, ⟨f1, by rw [f2, mg_self h1]⟩⟩, a3, hs_mg h1 h2 a3 tag⟩
set_option maxRecDepth 100000 in
set_option maxHeartbeats 4000000 in
theorem merges_a (va : Value) (m : List Int) (vb : Value) (n : List Int) (vc : Value) (p : List Int) (tg : Int) (w : World) (ha : TgAt w va m) (hb : TgAt w vb n) (hc : TgAt w vc p) (hg : -9223372036854775808 ≤ tg ∧ tg ≤ 9223372036854775807) (h1 : 50 < m.length) : Calls Try.prog 5 #[.agg #[va], .agg #[vb], .agg #[vc], .int .i64 tg] w fun e w' => e = .returned (.bool true) ∧ Below w.heap.size w w' := by
  have HA := Lib.hid ha
  have HB := Lib.hid hb
  have HC := Lib.hid hc
  have HTGB := Lib.hid hg
  clear hg
  obtain ⟨⟨aa, ac, rfl, ham, -⟩, -⟩ := ha
  obtain ⟨⟨ba, bc, rfl, hbm, -⟩, -⟩ := hb
  obtain ⟨⟨ca, cc, rfl, hcm, -⟩, -⟩ := hc
  unfold maxLen at ham hbm hcm
  have g0 : decide (((m).length : Int) > 50) = true := by simp; omega
  have g0' : decide ((50 : Int) < ((m).length : Int)) = true := by simp; omega
  have HB0 := Lib.hid (Below.refl w.heap.size w)
  go_enter Try.func5, Try.ntmps5
  have KA_1 := Lib.hid (Cs.new w (w.heap.size) #[.slice aa m.length ac] 24 (by simp))
  have HB2 : Hid (Below w.heap.size w (w.alloc (.cells #[.slice aa m.length ac] 24))) := HB0.out.alloc HB0.out.size _
  clear HB0
  have KA_3 := Lib.hid (KA_1.out.alloc (.cells #[.slice ba n.length bc] 24))
  clear KA_1
  have KB_4 := Lib.hid (Cs.new (w.alloc (.cells #[.slice aa m.length ac] 24)) (w.heap.size + 1) #[.slice ba n.length bc] 24 (by simp))
  have HB5 : Hid (Below w.heap.size w ((w.alloc (.cells #[.slice aa m.length ac] 24)).alloc (.cells #[.slice ba n.length bc] 24))) := HB2.out.alloc HB2.out.size _
  clear HB2
  have KA_6 := Lib.hid (KA_3.out.alloc (.cells #[.slice ca p.length cc] 24))
  clear KA_3
  have KB_7 := Lib.hid (KB_4.out.alloc (.cells #[.slice ca p.length cc] 24))
  clear KB_4
  have KC_8 := Lib.hid (Cs.new ((w.alloc (.cells #[.slice aa m.length ac] 24)).alloc (.cells #[.slice ba n.length bc] 24)) (w.heap.size + 1 + 1) #[.slice ca p.length cc] 24 (by simp))
  have HB9 : Hid (Below w.heap.size w (((w.alloc (.cells #[.slice aa m.length ac] 24)).alloc (.cells #[.slice ba n.length bc] 24)).alloc (.cells #[.slice ca p.length cc] 24))) := HB5.out.alloc HB5.out.size _
  clear HB5
  go_wp2_with fail
  refine (head_any _).mono ?_
  rintro e u1 ⟨rfl, b1⟩
  have KA_10 := Lib.hid (KA_6.out.step b1)
  clear KA_6
  have KB_11 := Lib.hid (KB_7.out.step b1)
  clear KB_7
  have KC_12 := Lib.hid (KC_8.out.step b1)
  clear KC_8
  have HB13 := Lib.hid (keep2 b1 HB9.out)
  clear HB9 b1
  have xA0 : u1.cell? ⟨w.heap.size, 0, none⟩ = some (.slice aa m.length ac) := KA_10.out.c 0 rfl
  have zA : w.heap.size < u1.heap.size := KA_10.out.2.2
  have z2A : w.heap.size < u1.heap.size + 1 := by omega
  have xB0 : u1.cell? ⟨w.heap.size + 1, 0, none⟩ = some (.slice ba n.length bc) := KB_11.out.c 0 rfl
  have zB : w.heap.size + 1 < u1.heap.size := KB_11.out.2.2
  have z2B : w.heap.size + 1 < u1.heap.size + 1 := by omega
  have xC0 : u1.cell? ⟨w.heap.size + 1 + 1, 0, none⟩ = some (.slice ca p.length cc) := KC_12.out.c 0 rfl
  have zC : w.heap.size + 1 + 1 < u1.heap.size := KC_12.out.2.2
  have z2C : w.heap.size + 1 + 1 < u1.heap.size + 1 := by omega
  go_wp2
  go_ret
  exact ⟨rfl, HB13.out⟩
set_option maxRecDepth 100000 in
set_option maxHeartbeats 4000000 in
theorem merges_b (va : Value) (m : List Int) (vb : Value) (n : List Int) (vc : Value) (p : List Int) (tg : Int) (w : World) (ha : TgAt w va m) (hb : TgAt w vb n) (hc : TgAt w vc p) (hg : -9223372036854775808 ≤ tg ∧ tg ≤ 9223372036854775807) (h1 : m.length ≤ 50) (h2 : 50 < n.length) : Calls Try.prog 5 #[.agg #[va], .agg #[vb], .agg #[vc], .int .i64 tg] w fun e w' => e = .returned (.bool true) ∧ Below w.heap.size w w' := by
  have HA := Lib.hid ha
  have HB := Lib.hid hb
  have HC := Lib.hid hc
  have HTGB := Lib.hid hg
  clear hg
  obtain ⟨⟨aa, ac, rfl, ham, -⟩, -⟩ := ha
  obtain ⟨⟨ba, bc, rfl, hbm, -⟩, -⟩ := hb
  obtain ⟨⟨ca, cc, rfl, hcm, -⟩, -⟩ := hc
  unfold maxLen at ham hbm hcm
  have g0 : decide (((m).length : Int) > 50) = false := by simp; omega
  have g0' : decide ((50 : Int) < ((m).length : Int)) = false := by simp; omega
  have g1 : decide (((n).length : Int) > 50) = true := by simp; omega
  have g1' : decide ((50 : Int) < ((n).length : Int)) = true := by simp; omega
  have HB0 := Lib.hid (Below.refl w.heap.size w)
  go_enter Try.func5, Try.ntmps5
  have KA_1 := Lib.hid (Cs.new w (w.heap.size) #[.slice aa m.length ac] 24 (by simp))
  have HB2 : Hid (Below w.heap.size w (w.alloc (.cells #[.slice aa m.length ac] 24))) := HB0.out.alloc HB0.out.size _
  clear HB0
  have KA_3 := Lib.hid (KA_1.out.alloc (.cells #[.slice ba n.length bc] 24))
  clear KA_1
  have KB_4 := Lib.hid (Cs.new (w.alloc (.cells #[.slice aa m.length ac] 24)) (w.heap.size + 1) #[.slice ba n.length bc] 24 (by simp))
  have HB5 : Hid (Below w.heap.size w ((w.alloc (.cells #[.slice aa m.length ac] 24)).alloc (.cells #[.slice ba n.length bc] 24))) := HB2.out.alloc HB2.out.size _
  clear HB2
  have KA_6 := Lib.hid (KA_3.out.alloc (.cells #[.slice ca p.length cc] 24))
  clear KA_3
  have KB_7 := Lib.hid (KB_4.out.alloc (.cells #[.slice ca p.length cc] 24))
  clear KB_4
  have KC_8 := Lib.hid (Cs.new ((w.alloc (.cells #[.slice aa m.length ac] 24)).alloc (.cells #[.slice ba n.length bc] 24)) (w.heap.size + 1 + 1) #[.slice ca p.length cc] 24 (by simp))
  have HB9 : Hid (Below w.heap.size w (((w.alloc (.cells #[.slice aa m.length ac] 24)).alloc (.cells #[.slice ba n.length bc] 24)).alloc (.cells #[.slice ca p.length cc] 24))) := HB5.out.alloc HB5.out.size _
  clear HB5
  go_wp2_with fail
  refine (head_any _).mono ?_
  rintro e u1 ⟨rfl, b1⟩
  have KA_10 := Lib.hid (KA_6.out.step b1)
  clear KA_6
  have KB_11 := Lib.hid (KB_7.out.step b1)
  clear KB_7
  have KC_12 := Lib.hid (KC_8.out.step b1)
  clear KC_8
  have HB13 := Lib.hid (keep2 b1 HB9.out)
  clear HB9 b1
  have xA0 : u1.cell? ⟨w.heap.size, 0, none⟩ = some (.slice aa m.length ac) := KA_10.out.c 0 rfl
  have zA : w.heap.size < u1.heap.size := KA_10.out.2.2
  have z2A : w.heap.size < u1.heap.size + 1 := by omega
  have xB0 : u1.cell? ⟨w.heap.size + 1, 0, none⟩ = some (.slice ba n.length bc) := KB_11.out.c 0 rfl
  have zB : w.heap.size + 1 < u1.heap.size := KB_11.out.2.2
  have z2B : w.heap.size + 1 < u1.heap.size + 1 := by omega
  have xC0 : u1.cell? ⟨w.heap.size + 1 + 1, 0, none⟩ = some (.slice ca p.length cc) := KC_12.out.c 0 rfl
  have zC : w.heap.size + 1 + 1 < u1.heap.size := KC_12.out.2.2
  have z2C : w.heap.size + 1 + 1 < u1.heap.size + 1 := by omega
  go_wp2
  go_ret
  exact ⟨rfl, HB13.out⟩
set_option maxRecDepth 100000 in
set_option maxHeartbeats 4000000 in
theorem merges_c (va : Value) (m : List Int) (vb : Value) (n : List Int) (vc : Value) (p : List Int) (tg : Int) (w : World) (ha : TgAt w va m) (hb : TgAt w vb n) (hc : TgAt w vc p) (hg : -9223372036854775808 ≤ tg ∧ tg ≤ 9223372036854775807) (h1 : m.length ≤ 50) (h2 : n.length ≤ 50) (h3 : 50 < p.length) : Calls Try.prog 5 #[.agg #[va], .agg #[vb], .agg #[vc], .int .i64 tg] w fun e w' => e = .returned (.bool true) ∧ Below w.heap.size w w' := by
  have HA := Lib.hid ha
  have HB := Lib.hid hb
  have HC := Lib.hid hc
  have HTGB := Lib.hid hg
  clear hg
  obtain ⟨⟨aa, ac, rfl, ham, -⟩, -⟩ := ha
  obtain ⟨⟨ba, bc, rfl, hbm, -⟩, -⟩ := hb
  obtain ⟨⟨ca, cc, rfl, hcm, -⟩, -⟩ := hc
  unfold maxLen at ham hbm hcm
  have g0 : decide (((m).length : Int) > 50) = false := by simp; omega
  have g0' : decide ((50 : Int) < ((m).length : Int)) = false := by simp; omega
  have g1 : decide (((n).length : Int) > 50) = false := by simp; omega
  have g1' : decide ((50 : Int) < ((n).length : Int)) = false := by simp; omega
  have g2 : decide (((p).length : Int) > 50) = true := by simp; omega
  have g2' : decide ((50 : Int) < ((p).length : Int)) = true := by simp; omega
  have HB0 := Lib.hid (Below.refl w.heap.size w)
  go_enter Try.func5, Try.ntmps5
  have KA_1 := Lib.hid (Cs.new w (w.heap.size) #[.slice aa m.length ac] 24 (by simp))
  have HB2 : Hid (Below w.heap.size w (w.alloc (.cells #[.slice aa m.length ac] 24))) := HB0.out.alloc HB0.out.size _
  clear HB0
  have KA_3 := Lib.hid (KA_1.out.alloc (.cells #[.slice ba n.length bc] 24))
  clear KA_1
  have KB_4 := Lib.hid (Cs.new (w.alloc (.cells #[.slice aa m.length ac] 24)) (w.heap.size + 1) #[.slice ba n.length bc] 24 (by simp))
  have HB5 : Hid (Below w.heap.size w ((w.alloc (.cells #[.slice aa m.length ac] 24)).alloc (.cells #[.slice ba n.length bc] 24))) := HB2.out.alloc HB2.out.size _
  clear HB2
  have KA_6 := Lib.hid (KA_3.out.alloc (.cells #[.slice ca p.length cc] 24))
  clear KA_3
  have KB_7 := Lib.hid (KB_4.out.alloc (.cells #[.slice ca p.length cc] 24))
  clear KB_4
  have KC_8 := Lib.hid (Cs.new ((w.alloc (.cells #[.slice aa m.length ac] 24)).alloc (.cells #[.slice ba n.length bc] 24)) (w.heap.size + 1 + 1) #[.slice ca p.length cc] 24 (by simp))
  have HB9 : Hid (Below w.heap.size w (((w.alloc (.cells #[.slice aa m.length ac] 24)).alloc (.cells #[.slice ba n.length bc] 24)).alloc (.cells #[.slice ca p.length cc] 24))) := HB5.out.alloc HB5.out.size _
  clear HB5
  go_wp2_with fail
  refine (head_any _).mono ?_
  rintro e u1 ⟨rfl, b1⟩
  have KA_10 := Lib.hid (KA_6.out.step b1)
  clear KA_6
  have KB_11 := Lib.hid (KB_7.out.step b1)
  clear KB_7
  have KC_12 := Lib.hid (KC_8.out.step b1)
  clear KC_8
  have HB13 := Lib.hid (keep2 b1 HB9.out)
  clear HB9 b1
  have xA0 : u1.cell? ⟨w.heap.size, 0, none⟩ = some (.slice aa m.length ac) := KA_10.out.c 0 rfl
  have zA : w.heap.size < u1.heap.size := KA_10.out.2.2
  have z2A : w.heap.size < u1.heap.size + 1 := by omega
  have xB0 : u1.cell? ⟨w.heap.size + 1, 0, none⟩ = some (.slice ba n.length bc) := KB_11.out.c 0 rfl
  have zB : w.heap.size + 1 < u1.heap.size := KB_11.out.2.2
  have z2B : w.heap.size + 1 < u1.heap.size + 1 := by omega
  have xC0 : u1.cell? ⟨w.heap.size + 1 + 1, 0, none⟩ = some (.slice ca p.length cc) := KC_12.out.c 0 rfl
  have zC : w.heap.size + 1 + 1 < u1.heap.size := KC_12.out.2.2
  have z2C : w.heap.size + 1 + 1 < u1.heap.size + 1 := by omega
  go_wp2
  go_ret
  exact ⟨rfl, HB13.out⟩
set_option maxRecDepth 100000 in
set_option maxHeartbeats 4000000 in
theorem merges_va (va : Value) (m : List Int) (vb : Value) (n : List Int) (vc : Value) (p : List Int) (tg : Int) (w : World) (ha : TgAt w va m) (hb : TgAt w vb n) (hc : TgAt w vc p) (hg : -9223372036854775808 ≤ tg ∧ tg ≤ 9223372036854775807) (h1 : m.length ≤ 50) (h2 : n.length ≤ 50) (h3 : p.length ≤ 50) (s1 : stB m = false) : Calls Try.prog 5 #[.agg #[va], .agg #[vb], .agg #[vc], .int .i64 tg] w fun e w' => e = .returned (.bool true) ∧ Below w.heap.size w w' := by
  have HA := Lib.hid ha
  have HB := Lib.hid hb
  have HC := Lib.hid hc
  have HTGB := Lib.hid hg
  clear hg
  obtain ⟨⟨aa, ac, rfl, ham, -⟩, -⟩ := ha
  obtain ⟨⟨ba, bc, rfl, hbm, -⟩, -⟩ := hb
  obtain ⟨⟨ca, cc, rfl, hcm, -⟩, -⟩ := hc
  unfold maxLen at ham hbm hcm
  have g0 : decide (((m).length : Int) > 50) = false := by simp; omega
  have g0' : decide ((50 : Int) < ((m).length : Int)) = false := by simp; omega
  have g1 : decide (((n).length : Int) > 50) = false := by simp; omega
  have g1' : decide ((50 : Int) < ((n).length : Int)) = false := by simp; omega
  have g2 : decide (((p).length : Int) > 50) = false := by simp; omega
  have g2' : decide ((50 : Int) < ((p).length : Int)) = false := by simp; omega
  have S1 := Lib.hid s1
  clear s1
  have HB0 := Lib.hid (Below.refl w.heap.size w)
  go_enter Try.func5, Try.ntmps5
  have KA_1 := Lib.hid (Cs.new w (w.heap.size) #[.slice aa m.length ac] 24 (by simp))
  have HB2 : Hid (Below w.heap.size w (w.alloc (.cells #[.slice aa m.length ac] 24))) := HB0.out.alloc HB0.out.size _
  clear HB0
  have KA_3 := Lib.hid (KA_1.out.alloc (.cells #[.slice ba n.length bc] 24))
  clear KA_1
  have KB_4 := Lib.hid (Cs.new (w.alloc (.cells #[.slice aa m.length ac] 24)) (w.heap.size + 1) #[.slice ba n.length bc] 24 (by simp))
  have HB5 : Hid (Below w.heap.size w ((w.alloc (.cells #[.slice aa m.length ac] 24)).alloc (.cells #[.slice ba n.length bc] 24))) := HB2.out.alloc HB2.out.size _
  clear HB2
  have KA_6 := Lib.hid (KA_3.out.alloc (.cells #[.slice ca p.length cc] 24))
  clear KA_3
  have KB_7 := Lib.hid (KB_4.out.alloc (.cells #[.slice ca p.length cc] 24))
  clear KB_4
  have KC_8 := Lib.hid (Cs.new ((w.alloc (.cells #[.slice aa m.length ac] 24)).alloc (.cells #[.slice ba n.length bc] 24)) (w.heap.size + 1 + 1) #[.slice ca p.length cc] 24 (by simp))
  have HB9 : Hid (Below w.heap.size w (((w.alloc (.cells #[.slice aa m.length ac] 24)).alloc (.cells #[.slice ba n.length bc] 24)).alloc (.cells #[.slice ca p.length cc] 24))) := HB5.out.alloc HB5.out.size _
  clear HB5
  go_wp2_with fail
  refine (head_any _).mono ?_
  rintro e u1 ⟨rfl, b1⟩
  have KA_10 := Lib.hid (KA_6.out.step b1)
  clear KA_6
  have KB_11 := Lib.hid (KB_7.out.step b1)
  clear KB_7
  have KC_12 := Lib.hid (KC_8.out.step b1)
  clear KC_8
  have HB13 := Lib.hid (keep2 b1 HB9.out)
  clear HB9 b1
  have xA0 : u1.cell? ⟨w.heap.size, 0, none⟩ = some (.slice aa m.length ac) := KA_10.out.c 0 rfl
  have zA : w.heap.size < u1.heap.size := KA_10.out.2.2
  have z2A : w.heap.size < u1.heap.size + 1 := by omega
  have xB0 : u1.cell? ⟨w.heap.size + 1, 0, none⟩ = some (.slice ba n.length bc) := KB_11.out.c 0 rfl
  have zB : w.heap.size + 1 < u1.heap.size := KB_11.out.2.2
  have z2B : w.heap.size + 1 < u1.heap.size + 1 := by omega
  have xC0 : u1.cell? ⟨w.heap.size + 1 + 1, 0, none⟩ = some (.slice ca p.length cc) := KC_12.out.c 0 rfl
  have zC : w.heap.size + 1 + 1 < u1.heap.size := KC_12.out.2.2
  have z2C : w.heap.size + 1 + 1 < u1.heap.size + 1 := by omega
  go_wp2_with fail
  refine (rvalid_any _ m _ (HA.out.step HB13.out).1).mono ?_
  rintro e u2 ⟨rfl, b2⟩
  clear xA0 zA z2A xB0 zB z2B xC0 zC z2C
  have KA_14 := Lib.hid (KA_10.out.step b2)
  clear KA_10
  have KB_15 := Lib.hid (KB_11.out.step b2)
  clear KB_11
  have KC_16 := Lib.hid (KC_12.out.step b2)
  clear KC_12
  have HB17 := Lib.hid (keep2 b2 HB13.out)
  clear HB13 b2
  rw [S1.out]
  go_wp2
  go_ret
  exact ⟨rfl, HB17.out⟩
set_option maxRecDepth 100000 in
set_option maxHeartbeats 4000000 in
theorem merges_vb (va : Value) (m : List Int) (vb : Value) (n : List Int) (vc : Value) (p : List Int) (tg : Int) (w : World) (ha : TgAt w va m) (hb : TgAt w vb n) (hc : TgAt w vc p) (hg : -9223372036854775808 ≤ tg ∧ tg ≤ 9223372036854775807) (h1 : m.length ≤ 50) (h2 : n.length ≤ 50) (h3 : p.length ≤ 50) (s1 : stB m = true) (s2 : stB n = false) : Calls Try.prog 5 #[.agg #[va], .agg #[vb], .agg #[vc], .int .i64 tg] w fun e w' => e = .returned (.bool true) ∧ Below w.heap.size w w' := by
  have HA := Lib.hid ha
  have HB := Lib.hid hb
  have HC := Lib.hid hc
  have HTGB := Lib.hid hg
  clear hg
  obtain ⟨⟨aa, ac, rfl, ham, -⟩, -⟩ := ha
  obtain ⟨⟨ba, bc, rfl, hbm, -⟩, -⟩ := hb
  obtain ⟨⟨ca, cc, rfl, hcm, -⟩, -⟩ := hc
  unfold maxLen at ham hbm hcm
  have g0 : decide (((m).length : Int) > 50) = false := by simp; omega
  have g0' : decide ((50 : Int) < ((m).length : Int)) = false := by simp; omega
  have g1 : decide (((n).length : Int) > 50) = false := by simp; omega
  have g1' : decide ((50 : Int) < ((n).length : Int)) = false := by simp; omega
  have g2 : decide (((p).length : Int) > 50) = false := by simp; omega
  have g2' : decide ((50 : Int) < ((p).length : Int)) = false := by simp; omega
  have S1 := Lib.hid s1
  clear s1
  have S2 := Lib.hid s2
  clear s2
  have HB0 := Lib.hid (Below.refl w.heap.size w)
  go_enter Try.func5, Try.ntmps5
  have KA_1 := Lib.hid (Cs.new w (w.heap.size) #[.slice aa m.length ac] 24 (by simp))
  have HB2 : Hid (Below w.heap.size w (w.alloc (.cells #[.slice aa m.length ac] 24))) := HB0.out.alloc HB0.out.size _
  clear HB0
  have KA_3 := Lib.hid (KA_1.out.alloc (.cells #[.slice ba n.length bc] 24))
  clear KA_1
  have KB_4 := Lib.hid (Cs.new (w.alloc (.cells #[.slice aa m.length ac] 24)) (w.heap.size + 1) #[.slice ba n.length bc] 24 (by simp))
  have HB5 : Hid (Below w.heap.size w ((w.alloc (.cells #[.slice aa m.length ac] 24)).alloc (.cells #[.slice ba n.length bc] 24))) := HB2.out.alloc HB2.out.size _
  clear HB2
  have KA_6 := Lib.hid (KA_3.out.alloc (.cells #[.slice ca p.length cc] 24))
  clear KA_3
  have KB_7 := Lib.hid (KB_4.out.alloc (.cells #[.slice ca p.length cc] 24))
  clear KB_4
  have KC_8 := Lib.hid (Cs.new ((w.alloc (.cells #[.slice aa m.length ac] 24)).alloc (.cells #[.slice ba n.length bc] 24)) (w.heap.size + 1 + 1) #[.slice ca p.length cc] 24 (by simp))
  have HB9 : Hid (Below w.heap.size w (((w.alloc (.cells #[.slice aa m.length ac] 24)).alloc (.cells #[.slice ba n.length bc] 24)).alloc (.cells #[.slice ca p.length cc] 24))) := HB5.out.alloc HB5.out.size _
  clear HB5
  go_wp2_with fail
  refine (head_any _).mono ?_
  rintro e u1 ⟨rfl, b1⟩
  have KA_10 := Lib.hid (KA_6.out.step b1)
  clear KA_6
  have KB_11 := Lib.hid (KB_7.out.step b1)
  clear KB_7
  have KC_12 := Lib.hid (KC_8.out.step b1)
  clear KC_8
  have HB13 := Lib.hid (keep2 b1 HB9.out)
  clear HB9 b1
  have xA0 : u1.cell? ⟨w.heap.size, 0, none⟩ = some (.slice aa m.length ac) := KA_10.out.c 0 rfl
  have zA : w.heap.size < u1.heap.size := KA_10.out.2.2
  have z2A : w.heap.size < u1.heap.size + 1 := by omega
  have xB0 : u1.cell? ⟨w.heap.size + 1, 0, none⟩ = some (.slice ba n.length bc) := KB_11.out.c 0 rfl
  have zB : w.heap.size + 1 < u1.heap.size := KB_11.out.2.2
  have z2B : w.heap.size + 1 < u1.heap.size + 1 := by omega
  have xC0 : u1.cell? ⟨w.heap.size + 1 + 1, 0, none⟩ = some (.slice ca p.length cc) := KC_12.out.c 0 rfl
  have zC : w.heap.size + 1 + 1 < u1.heap.size := KC_12.out.2.2
  have z2C : w.heap.size + 1 + 1 < u1.heap.size + 1 := by omega
  go_wp2_with fail
  refine (rvalid_any _ m _ (HA.out.step HB13.out).1).mono ?_
  rintro e u2 ⟨rfl, b2⟩
  clear xA0 zA z2A xB0 zB z2B xC0 zC z2C
  have KA_14 := Lib.hid (KA_10.out.step b2)
  clear KA_10
  have KB_15 := Lib.hid (KB_11.out.step b2)
  clear KB_11
  have KC_16 := Lib.hid (KC_12.out.step b2)
  clear KC_12
  have HB17 := Lib.hid (keep2 b2 HB13.out)
  clear HB13 b2
  rw [S1.out]
  have xB0 : u2.cell? ⟨w.heap.size + 1, 0, none⟩ = some (.slice ba n.length bc) := KB_15.out.c 0 rfl
  have zB : w.heap.size + 1 < u2.heap.size := KB_15.out.2.2
  have z2B : w.heap.size + 1 < u2.heap.size + 1 := by omega
  go_wp2_with fail
  refine (rvalid_any _ n _ (HB.out.step HB17.out).1).mono ?_
  rintro e u3 ⟨rfl, b3⟩
  clear xB0 zB z2B
  have KA_18 := Lib.hid (KA_14.out.step b3)
  clear KA_14
  have KB_19 := Lib.hid (KB_15.out.step b3)
  clear KB_15
  have KC_20 := Lib.hid (KC_16.out.step b3)
  clear KC_16
  have HB21 := Lib.hid (keep2 b3 HB17.out)
  clear HB17 b3
  rw [S2.out]
  go_wp2
  go_ret
  exact ⟨rfl, HB21.out⟩
set_option maxRecDepth 100000 in
set_option maxHeartbeats 4000000 in
theorem merges_vc (va : Value) (m : List Int) (vb : Value) (n : List Int) (vc : Value) (p : List Int) (tg : Int) (w : World) (ha : TgAt w va m) (hb : TgAt w vb n) (hc : TgAt w vc p) (hg : -9223372036854775808 ≤ tg ∧ tg ≤ 9223372036854775807) (h1 : m.length ≤ 50) (h2 : n.length ≤ 50) (h3 : p.length ≤ 50) (s1 : stB m = true) (s2 : stB n = true) (s3 : stB p = false) : Calls Try.prog 5 #[.agg #[va], .agg #[vb], .agg #[vc], .int .i64 tg] w fun e w' => e = .returned (.bool true) ∧ Below w.heap.size w w' := by
  have HA := Lib.hid ha
  have HB := Lib.hid hb
  have HC := Lib.hid hc
  have HTGB := Lib.hid hg
  clear hg
  obtain ⟨⟨aa, ac, rfl, ham, -⟩, -⟩ := ha
  obtain ⟨⟨ba, bc, rfl, hbm, -⟩, -⟩ := hb
  obtain ⟨⟨ca, cc, rfl, hcm, -⟩, -⟩ := hc
  unfold maxLen at ham hbm hcm
  have g0 : decide (((m).length : Int) > 50) = false := by simp; omega
  have g0' : decide ((50 : Int) < ((m).length : Int)) = false := by simp; omega
  have g1 : decide (((n).length : Int) > 50) = false := by simp; omega
  have g1' : decide ((50 : Int) < ((n).length : Int)) = false := by simp; omega
  have g2 : decide (((p).length : Int) > 50) = false := by simp; omega
  have g2' : decide ((50 : Int) < ((p).length : Int)) = false := by simp; omega
  have S1 := Lib.hid s1
  clear s1
  have S2 := Lib.hid s2
  clear s2
  have S3 := Lib.hid s3
  clear s3
  have HB0 := Lib.hid (Below.refl w.heap.size w)
  go_enter Try.func5, Try.ntmps5
  have KA_1 := Lib.hid (Cs.new w (w.heap.size) #[.slice aa m.length ac] 24 (by simp))
  have HB2 : Hid (Below w.heap.size w (w.alloc (.cells #[.slice aa m.length ac] 24))) := HB0.out.alloc HB0.out.size _
  clear HB0
  have KA_3 := Lib.hid (KA_1.out.alloc (.cells #[.slice ba n.length bc] 24))
  clear KA_1
  have KB_4 := Lib.hid (Cs.new (w.alloc (.cells #[.slice aa m.length ac] 24)) (w.heap.size + 1) #[.slice ba n.length bc] 24 (by simp))
  have HB5 : Hid (Below w.heap.size w ((w.alloc (.cells #[.slice aa m.length ac] 24)).alloc (.cells #[.slice ba n.length bc] 24))) := HB2.out.alloc HB2.out.size _
  clear HB2
  have KA_6 := Lib.hid (KA_3.out.alloc (.cells #[.slice ca p.length cc] 24))
  clear KA_3
  have KB_7 := Lib.hid (KB_4.out.alloc (.cells #[.slice ca p.length cc] 24))
  clear KB_4
  have KC_8 := Lib.hid (Cs.new ((w.alloc (.cells #[.slice aa m.length ac] 24)).alloc (.cells #[.slice ba n.length bc] 24)) (w.heap.size + 1 + 1) #[.slice ca p.length cc] 24 (by simp))
  have HB9 : Hid (Below w.heap.size w (((w.alloc (.cells #[.slice aa m.length ac] 24)).alloc (.cells #[.slice ba n.length bc] 24)).alloc (.cells #[.slice ca p.length cc] 24))) := HB5.out.alloc HB5.out.size _
  clear HB5
  go_wp2_with fail
  refine (head_any _).mono ?_
  rintro e u1 ⟨rfl, b1⟩
  have KA_10 := Lib.hid (KA_6.out.step b1)
  clear KA_6
  have KB_11 := Lib.hid (KB_7.out.step b1)
  clear KB_7
  have KC_12 := Lib.hid (KC_8.out.step b1)
  clear KC_8
  have HB13 := Lib.hid (keep2 b1 HB9.out)
  clear HB9 b1
  have xA0 : u1.cell? ⟨w.heap.size, 0, none⟩ = some (.slice aa m.length ac) := KA_10.out.c 0 rfl
  have zA : w.heap.size < u1.heap.size := KA_10.out.2.2
  have z2A : w.heap.size < u1.heap.size + 1 := by omega
  have xB0 : u1.cell? ⟨w.heap.size + 1, 0, none⟩ = some (.slice ba n.length bc) := KB_11.out.c 0 rfl
  have zB : w.heap.size + 1 < u1.heap.size := KB_11.out.2.2
  have z2B : w.heap.size + 1 < u1.heap.size + 1 := by omega
  have xC0 : u1.cell? ⟨w.heap.size + 1 + 1, 0, none⟩ = some (.slice ca p.length cc) := KC_12.out.c 0 rfl
  have zC : w.heap.size + 1 + 1 < u1.heap.size := KC_12.out.2.2
  have z2C : w.heap.size + 1 + 1 < u1.heap.size + 1 := by omega
  go_wp2_with fail
  refine (rvalid_any _ m _ (HA.out.step HB13.out).1).mono ?_
  rintro e u2 ⟨rfl, b2⟩
  clear xA0 zA z2A xB0 zB z2B xC0 zC z2C
  have KA_14 := Lib.hid (KA_10.out.step b2)
  clear KA_10
  have KB_15 := Lib.hid (KB_11.out.step b2)
  clear KB_11
  have KC_16 := Lib.hid (KC_12.out.step b2)
  clear KC_12
  have HB17 := Lib.hid (keep2 b2 HB13.out)
  clear HB13 b2
  rw [S1.out]
  have xB0 : u2.cell? ⟨w.heap.size + 1, 0, none⟩ = some (.slice ba n.length bc) := KB_15.out.c 0 rfl
  have zB : w.heap.size + 1 < u2.heap.size := KB_15.out.2.2
  have z2B : w.heap.size + 1 < u2.heap.size + 1 := by omega
  go_wp2_with fail
  refine (rvalid_any _ n _ (HB.out.step HB17.out).1).mono ?_
  rintro e u3 ⟨rfl, b3⟩
  clear xB0 zB z2B
  have KA_18 := Lib.hid (KA_14.out.step b3)
  clear KA_14
  have KB_19 := Lib.hid (KB_15.out.step b3)
  clear KB_15
  have KC_20 := Lib.hid (KC_16.out.step b3)
  clear KC_16
  have HB21 := Lib.hid (keep2 b3 HB17.out)
  clear HB17 b3
  rw [S2.out]
  have xC0 : u3.cell? ⟨w.heap.size + 1 + 1, 0, none⟩ = some (.slice ca p.length cc) := KC_20.out.c 0 rfl
  have zC : w.heap.size + 1 + 1 < u3.heap.size := KC_20.out.2.2
  have z2C : w.heap.size + 1 + 1 < u3.heap.size + 1 := by omega
  go_wp2_with fail
  refine (rvalid_any _ p _ (HC.out.step HB21.out).1).mono ?_
  rintro e u4 ⟨rfl, b4⟩
  clear xC0 zC z2C
  have KA_22 := Lib.hid (KA_18.out.step b4)
  clear KA_18
  have KB_23 := Lib.hid (KB_19.out.step b4)
  clear KB_19
  have KC_24 := Lib.hid (KC_20.out.step b4)
  clear KC_20
  have HB25 := Lib.hid (keep2 b4 HB21.out)
  clear HB21 b4
  rw [S3.out]
  go_wp2
  go_ret
  exact ⟨rfl, HB25.out⟩
set_option maxRecDepth 100000 in
set_option maxHeartbeats 4000000 in
theorem merges_p (va : Value) (m : List Int) (vb : Value) (n : List Int) (vc : Value) (p : List Int) (tg : Int) (w : World) (ha : TgAt w va m) (hb : TgAt w vb n) (hc : TgAt w vc p) (hg : -9223372036854775808 ≤ tg ∧ tg ≤ 9223372036854775807) (h1 : m.length ≤ 50) (h2 : n.length ≤ 50) (h3 : p.length ≤ 50) (s1 : stB m = true) (s2 : stB n = true) (s3 : stB p = true) (hp : hsB m tg = true) : Calls Try.prog 5 #[.agg #[va], .agg #[vb], .agg #[vc], .int .i64 tg] w fun e w' => e = .returned (.bool true) ∧ Below w.heap.size w w' := by
  have HA := Lib.hid ha
  have HB := Lib.hid hb
  have HC := Lib.hid hc
  have HTGB := Lib.hid hg
  clear hg
  obtain ⟨⟨aa, ac, rfl, ham, -⟩, -⟩ := ha
  obtain ⟨⟨ba, bc, rfl, hbm, -⟩, -⟩ := hb
  obtain ⟨⟨ca, cc, rfl, hcm, -⟩, -⟩ := hc
  unfold maxLen at ham hbm hcm
  have g0 : decide (((m).length : Int) > 50) = false := by simp; omega
  have g0' : decide ((50 : Int) < ((m).length : Int)) = false := by simp; omega
  have g1 : decide (((n).length : Int) > 50) = false := by simp; omega
  have g1' : decide ((50 : Int) < ((n).length : Int)) = false := by simp; omega
  have g2 : decide (((p).length : Int) > 50) = false := by simp; omega
  have g2' : decide ((50 : Int) < ((p).length : Int)) = false := by simp; omega
  obtain ⟨AB, BC, LL, ⟨⟨a1, a2⟩, ⟨b1, b2⟩, ⟨c1, c2⟩⟩, ⟨⟨d1, d2⟩, ⟨e1, e2⟩, ⟨f1, f2⟩⟩, k1, k2⟩ := merge_facts tg s1 s2 s3 h1 h2 h3
  have A1 := Lib.hid a1
  have A2 := Lib.hid a2
  clear a1 a2
  have B1 := Lib.hid b1
  have B2 := Lib.hid b2
  clear b1 b2
  have C1 := Lib.hid c1
  have C2 := Lib.hid c2
  clear c1 c2
  have D1 := Lib.hid d1
  have D2 := Lib.hid d2
  clear d1 d2
  have E1 := Lib.hid e1
  have E2 := Lib.hid e2
  clear e1 e2
  have F1 := Lib.hid f1
  have F2 := Lib.hid f2
  clear f1 f2
  have SAB := Lib.hid k1
  obtain ⟨bb, hbb⟩ : ∃ bb, hsB n tg = bb := ⟨_, rfl⟩
  rw [hp, hbb] at k2
  have HAB := Lib.hid k2
  have HPT := Lib.hid hp
  replace hbb := Lib.hid hbb
  clear hp k1 k2
  simp only [Bool.true_or] at HAB
  have S1 := Lib.hid s1
  clear s1
  have S2 := Lib.hid s2
  clear s2
  have S3 := Lib.hid s3
  clear s3
  have HB0 := Lib.hid (Below.refl w.heap.size w)
  go_enter Try.func5, Try.ntmps5
  have KA_1 := Lib.hid (Cs.new w (w.heap.size) #[.slice aa m.length ac] 24 (by simp))
  have HB2 : Hid (Below w.heap.size w (w.alloc (.cells #[.slice aa m.length ac] 24))) := HB0.out.alloc HB0.out.size _
  clear HB0
  have KA_3 := Lib.hid (KA_1.out.alloc (.cells #[.slice ba n.length bc] 24))
  clear KA_1
  have KB_4 := Lib.hid (Cs.new (w.alloc (.cells #[.slice aa m.length ac] 24)) (w.heap.size + 1) #[.slice ba n.length bc] 24 (by simp))
  have HB5 : Hid (Below w.heap.size w ((w.alloc (.cells #[.slice aa m.length ac] 24)).alloc (.cells #[.slice ba n.length bc] 24))) := HB2.out.alloc HB2.out.size _
  clear HB2
  have KA_6 := Lib.hid (KA_3.out.alloc (.cells #[.slice ca p.length cc] 24))
  clear KA_3
  have KB_7 := Lib.hid (KB_4.out.alloc (.cells #[.slice ca p.length cc] 24))
  clear KB_4
  have KC_8 := Lib.hid (Cs.new ((w.alloc (.cells #[.slice aa m.length ac] 24)).alloc (.cells #[.slice ba n.length bc] 24)) (w.heap.size + 1 + 1) #[.slice ca p.length cc] 24 (by simp))
  have HB9 : Hid (Below w.heap.size w (((w.alloc (.cells #[.slice aa m.length ac] 24)).alloc (.cells #[.slice ba n.length bc] 24)).alloc (.cells #[.slice ca p.length cc] 24))) := HB5.out.alloc HB5.out.size _
  clear HB5
  go_wp2_with fail
  refine (head_any _).mono ?_
  rintro e u1 ⟨rfl, b1⟩
  have KA_10 := Lib.hid (KA_6.out.step b1)
  clear KA_6
  have KB_11 := Lib.hid (KB_7.out.step b1)
  clear KB_7
  have KC_12 := Lib.hid (KC_8.out.step b1)
  clear KC_8
  have HB13 := Lib.hid (keep2 b1 HB9.out)
  clear HB9 b1
  have xA0 : u1.cell? ⟨w.heap.size, 0, none⟩ = some (.slice aa m.length ac) := KA_10.out.c 0 rfl
  have zA : w.heap.size < u1.heap.size := KA_10.out.2.2
  have z2A : w.heap.size < u1.heap.size + 1 := by omega
  have xB0 : u1.cell? ⟨w.heap.size + 1, 0, none⟩ = some (.slice ba n.length bc) := KB_11.out.c 0 rfl
  have zB : w.heap.size + 1 < u1.heap.size := KB_11.out.2.2
  have z2B : w.heap.size + 1 < u1.heap.size + 1 := by omega
  have xC0 : u1.cell? ⟨w.heap.size + 1 + 1, 0, none⟩ = some (.slice ca p.length cc) := KC_12.out.c 0 rfl
  have zC : w.heap.size + 1 + 1 < u1.heap.size := KC_12.out.2.2
  have z2C : w.heap.size + 1 + 1 < u1.heap.size + 1 := by omega
  go_wp2_with fail
  refine (rvalid_any _ m _ (HA.out.step HB13.out).1).mono ?_
  rintro e u2 ⟨rfl, b2⟩
  clear xA0 zA z2A xB0 zB z2B xC0 zC z2C
  have KA_14 := Lib.hid (KA_10.out.step b2)
  clear KA_10
  have KB_15 := Lib.hid (KB_11.out.step b2)
  clear KB_11
  have KC_16 := Lib.hid (KC_12.out.step b2)
  clear KC_12
  have HB17 := Lib.hid (keep2 b2 HB13.out)
  clear HB13 b2
  rw [S1.out]
  have xB0 : u2.cell? ⟨w.heap.size + 1, 0, none⟩ = some (.slice ba n.length bc) := KB_15.out.c 0 rfl
  have zB : w.heap.size + 1 < u2.heap.size := KB_15.out.2.2
  have z2B : w.heap.size + 1 < u2.heap.size + 1 := by omega
  go_wp2_with fail
  refine (rvalid_any _ n _ (HB.out.step HB17.out).1).mono ?_
  rintro e u3 ⟨rfl, b3⟩
  clear xB0 zB z2B
  have KA_18 := Lib.hid (KA_14.out.step b3)
  clear KA_14
  have KB_19 := Lib.hid (KB_15.out.step b3)
  clear KB_15
  have KC_20 := Lib.hid (KC_16.out.step b3)
  clear KC_16
  have HB21 := Lib.hid (keep2 b3 HB17.out)
  clear HB17 b3
  rw [S2.out]
  have xC0 : u3.cell? ⟨w.heap.size + 1 + 1, 0, none⟩ = some (.slice ca p.length cc) := KC_20.out.c 0 rfl
  have zC : w.heap.size + 1 + 1 < u3.heap.size := KC_20.out.2.2
  have z2C : w.heap.size + 1 + 1 < u3.heap.size + 1 := by omega
  go_wp2_with fail
  refine (rvalid_any _ p _ (HC.out.step HB21.out).1).mono ?_
  rintro e u4 ⟨rfl, b4⟩
  clear xC0 zC z2C
  have KA_22 := Lib.hid (KA_18.out.step b4)
  clear KA_18
  have KB_23 := Lib.hid (KB_19.out.step b4)
  clear KB_19
  have KC_24 := Lib.hid (KC_20.out.step b4)
  clear KC_20
  have HB25 := Lib.hid (keep2 b4 HB21.out)
  clear HB21 b4
  rw [S3.out]
  have xA0 : u4.cell? ⟨w.heap.size, 0, none⟩ = some (.slice aa m.length ac) := KA_22.out.c 0 rfl
  have zA : w.heap.size < u4.heap.size := KA_22.out.2.2
  have z2A : w.heap.size < u4.heap.size + 1 := by omega
  have xB0 : u4.cell? ⟨w.heap.size + 1, 0, none⟩ = some (.slice ba n.length bc) := KB_23.out.c 0 rfl
  have zB : w.heap.size + 1 < u4.heap.size := KB_23.out.2.2
  have z2B : w.heap.size + 1 < u4.heap.size + 1 := by omega
  go_wp2_with fail
  refine (merge2_any _ _ m n _ (HA.out.step HB25.out) (HB.out.step HB25.out)).mono ?_
  rintro e u24 ⟨⟨um, rfl, hum⟩, b24⟩
  rw [A1.out]
  obtain ⟨Ma, Mc, rfl, htm⟩ := row_tg hum A2.out rfl
  have HM := Lib.hid htm
  clear hum htm
  clear xA0 zA z2A xB0 zB z2B
  have KA_26 := Lib.hid (KA_22.out.step b24)
  clear KA_22
  have KB_27 := Lib.hid (KB_23.out.step b24)
  clear KB_23
  have KC_28 := Lib.hid (KC_24.out.step b24)
  clear KC_24
  have HB29 := Lib.hid (keep2 b24 HB25.out)
  clear HB25 b24
  replace HM := Lib.hid (HM.out.step (al u24 (.cells #[.slice Ma AB.length Mc] 24)))
  have KA_30 := Lib.hid (KA_26.out.alloc (.cells #[.slice Ma AB.length Mc] 24))
  clear KA_26
  have KB_31 := Lib.hid (KB_27.out.alloc (.cells #[.slice Ma AB.length Mc] 24))
  clear KB_27
  have KC_32 := Lib.hid (KC_28.out.alloc (.cells #[.slice Ma AB.length Mc] 24))
  clear KC_28
  have KM_33 := Lib.hid (Cs.new u24 (u24.heap.size) #[.slice Ma AB.length Mc] 24 (by simp))
  have HB34 : Hid (Below w.heap.size w (u24.alloc (.cells #[.slice Ma AB.length Mc] 24))) := HB29.out.alloc HB29.out.size _
  clear HB29
  have xA0 : (u24.alloc (.cells #[.slice Ma AB.length Mc] 24)).cell? ⟨w.heap.size, 0, none⟩ = some (.slice aa m.length ac) := KA_30.out.c 0 rfl
  have zA : w.heap.size < (u24.alloc (.cells #[.slice Ma AB.length Mc] 24)).heap.size := KA_30.out.2.2
  have z2A : w.heap.size < (u24.alloc (.cells #[.slice Ma AB.length Mc] 24)).heap.size + 1 := by omega
  have xB0 : (u24.alloc (.cells #[.slice Ma AB.length Mc] 24)).cell? ⟨w.heap.size + 1, 0, none⟩ = some (.slice ba n.length bc) := KB_31.out.c 0 rfl
  have zB : w.heap.size + 1 < (u24.alloc (.cells #[.slice Ma AB.length Mc] 24)).heap.size := KB_31.out.2.2
  have z2B : w.heap.size + 1 < (u24.alloc (.cells #[.slice Ma AB.length Mc] 24)).heap.size + 1 := by omega
  go_wp2_with fail
  refine (merge2_any _ _ n m _ (HB.out.step HB34.out) (HA.out.step HB34.out)).mono ?_
  rintro e u25 ⟨⟨um, rfl, hum⟩, b25⟩
  rw [B1.out]
  obtain ⟨Na, Nc, rfl, htm⟩ := row_tg hum B2.out rfl
  have HN := Lib.hid htm
  clear hum htm
  replace HM := Lib.hid (HM.out.step b25)
  clear xA0 zA z2A xB0 zB z2B
  have KA_35 := Lib.hid (KA_30.out.step b25)
  clear KA_30
  have KB_36 := Lib.hid (KB_31.out.step b25)
  clear KB_31
  have KC_37 := Lib.hid (KC_32.out.step b25)
  clear KC_32
  have KM_38 := Lib.hid (KM_33.out.step b25)
  clear KM_33
  have HB39 := Lib.hid (keep2 b25 HB34.out)
  clear HB34 b25
  replace HM := Lib.hid (HM.out.step (al u25 (.cells #[.slice Na AB.length Nc] 24)))
  replace HN := Lib.hid (HN.out.step (al u25 (.cells #[.slice Na AB.length Nc] 24)))
  have KA_40 := Lib.hid (KA_35.out.alloc (.cells #[.slice Na AB.length Nc] 24))
  clear KA_35
  have KB_41 := Lib.hid (KB_36.out.alloc (.cells #[.slice Na AB.length Nc] 24))
  clear KB_36
  have KC_42 := Lib.hid (KC_37.out.alloc (.cells #[.slice Na AB.length Nc] 24))
  clear KC_37
  have KM_43 := Lib.hid (KM_38.out.alloc (.cells #[.slice Na AB.length Nc] 24))
  clear KM_38
  have KN_44 := Lib.hid (Cs.new u25 (u25.heap.size) #[.slice Na AB.length Nc] 24 (by simp))
  have HB45 : Hid (Below w.heap.size w (u25.alloc (.cells #[.slice Na AB.length Nc] 24))) := HB39.out.alloc HB39.out.size _
  clear HB39
  have xB0 : (u25.alloc (.cells #[.slice Na AB.length Nc] 24)).cell? ⟨w.heap.size + 1, 0, none⟩ = some (.slice ba n.length bc) := KB_41.out.c 0 rfl
  have zB : w.heap.size + 1 < (u25.alloc (.cells #[.slice Na AB.length Nc] 24)).heap.size := KB_41.out.2.2
  have z2B : w.heap.size + 1 < (u25.alloc (.cells #[.slice Na AB.length Nc] 24)).heap.size + 1 := by omega
  have xC0 : (u25.alloc (.cells #[.slice Na AB.length Nc] 24)).cell? ⟨w.heap.size + 1 + 1, 0, none⟩ = some (.slice ca p.length cc) := KC_42.out.c 0 rfl
  have zC : w.heap.size + 1 + 1 < (u25.alloc (.cells #[.slice Na AB.length Nc] 24)).heap.size := KC_42.out.2.2
  have z2C : w.heap.size + 1 + 1 < (u25.alloc (.cells #[.slice Na AB.length Nc] 24)).heap.size + 1 := by omega
  go_wp2_with fail
  refine (merge2_any _ _ n p _ (HB.out.step HB45.out) (HC.out.step HB45.out)).mono ?_
  rintro e u26 ⟨⟨um, rfl, hum⟩, b26⟩
  rw [C1.out]
  obtain ⟨Oa, Oc, rfl, htm⟩ := row_tg hum C2.out rfl
  have HO := Lib.hid htm
  clear hum htm
  replace HM := Lib.hid (HM.out.step b26)
  replace HN := Lib.hid (HN.out.step b26)
  clear xB0 zB z2B xC0 zC z2C
  have KA_46 := Lib.hid (KA_40.out.step b26)
  clear KA_40
  have KB_47 := Lib.hid (KB_41.out.step b26)
  clear KB_41
  have KC_48 := Lib.hid (KC_42.out.step b26)
  clear KC_42
  have KM_49 := Lib.hid (KM_43.out.step b26)
  clear KM_43
  have KN_50 := Lib.hid (KN_44.out.step b26)
  clear KN_44
  have HB51 := Lib.hid (keep2 b26 HB45.out)
  clear HB45 b26
  replace HM := Lib.hid (HM.out.step (al u26 (.cells #[.slice Oa BC.length Oc] 24)))
  replace HN := Lib.hid (HN.out.step (al u26 (.cells #[.slice Oa BC.length Oc] 24)))
  replace HO := Lib.hid (HO.out.step (al u26 (.cells #[.slice Oa BC.length Oc] 24)))
  have KA_52 := Lib.hid (KA_46.out.alloc (.cells #[.slice Oa BC.length Oc] 24))
  clear KA_46
  have KB_53 := Lib.hid (KB_47.out.alloc (.cells #[.slice Oa BC.length Oc] 24))
  clear KB_47
  have KC_54 := Lib.hid (KC_48.out.alloc (.cells #[.slice Oa BC.length Oc] 24))
  clear KC_48
  have KM_55 := Lib.hid (KM_49.out.alloc (.cells #[.slice Oa BC.length Oc] 24))
  clear KM_49
  have KN_56 := Lib.hid (KN_50.out.alloc (.cells #[.slice Oa BC.length Oc] 24))
  clear KN_50
  have KO_57 := Lib.hid (Cs.new u26 (u26.heap.size) #[.slice Oa BC.length Oc] 24 (by simp))
  have HB58 : Hid (Below w.heap.size w (u26.alloc (.cells #[.slice Oa BC.length Oc] 24))) := HB51.out.alloc HB51.out.size _
  clear HB51
  have xC0 : (u26.alloc (.cells #[.slice Oa BC.length Oc] 24)).cell? ⟨w.heap.size + 1 + 1, 0, none⟩ = some (.slice ca p.length cc) := KC_54.out.c 0 rfl
  have zC : w.heap.size + 1 + 1 < (u26.alloc (.cells #[.slice Oa BC.length Oc] 24)).heap.size := KC_54.out.2.2
  have z2C : w.heap.size + 1 + 1 < (u26.alloc (.cells #[.slice Oa BC.length Oc] 24)).heap.size + 1 := by omega
  have xM0 : (u26.alloc (.cells #[.slice Oa BC.length Oc] 24)).cell? ⟨u24.heap.size, 0, none⟩ = some (.slice Ma AB.length Mc) := KM_55.out.c 0 rfl
  have zM : u24.heap.size < (u26.alloc (.cells #[.slice Oa BC.length Oc] 24)).heap.size := KM_55.out.2.2
  have z2M : u24.heap.size < (u26.alloc (.cells #[.slice Oa BC.length Oc] 24)).heap.size + 1 := by omega
  go_wp2_with fail
  refine (merge2_any _ _ AB p _ HM.out (HC.out.step HB58.out)).mono ?_
  rintro e u27 ⟨⟨um, rfl, hum⟩, b27⟩
  rw [D1.out]
  obtain ⟨Pa, Pc, rfl, htm⟩ := row_tg hum D2.out rfl
  have HP := Lib.hid htm
  clear hum htm
  replace HM := Lib.hid (HM.out.step b27)
  replace HN := Lib.hid (HN.out.step b27)
  replace HO := Lib.hid (HO.out.step b27)
  clear xC0 zC z2C xM0 zM z2M
  have KA_59 := Lib.hid (KA_52.out.step b27)
  clear KA_52
  have KB_60 := Lib.hid (KB_53.out.step b27)
  clear KB_53
  have KC_61 := Lib.hid (KC_54.out.step b27)
  clear KC_54
  have KM_62 := Lib.hid (KM_55.out.step b27)
  clear KM_55
  have KN_63 := Lib.hid (KN_56.out.step b27)
  clear KN_56
  have KO_64 := Lib.hid (KO_57.out.step b27)
  clear KO_57
  have HB65 := Lib.hid (keep2 b27 HB58.out)
  clear HB58 b27
  replace HM := Lib.hid (HM.out.step (al u27 (.cells #[.slice Pa LL.length Pc] 24)))
  replace HN := Lib.hid (HN.out.step (al u27 (.cells #[.slice Pa LL.length Pc] 24)))
  replace HO := Lib.hid (HO.out.step (al u27 (.cells #[.slice Pa LL.length Pc] 24)))
  replace HP := Lib.hid (HP.out.step (al u27 (.cells #[.slice Pa LL.length Pc] 24)))
  have KA_66 := Lib.hid (KA_59.out.alloc (.cells #[.slice Pa LL.length Pc] 24))
  clear KA_59
  have KB_67 := Lib.hid (KB_60.out.alloc (.cells #[.slice Pa LL.length Pc] 24))
  clear KB_60
  have KC_68 := Lib.hid (KC_61.out.alloc (.cells #[.slice Pa LL.length Pc] 24))
  clear KC_61
  have KM_69 := Lib.hid (KM_62.out.alloc (.cells #[.slice Pa LL.length Pc] 24))
  clear KM_62
  have KN_70 := Lib.hid (KN_63.out.alloc (.cells #[.slice Pa LL.length Pc] 24))
  clear KN_63
  have KO_71 := Lib.hid (KO_64.out.alloc (.cells #[.slice Pa LL.length Pc] 24))
  clear KO_64
  have KP_72 := Lib.hid (Cs.new u27 (u27.heap.size) #[.slice Pa LL.length Pc] 24 (by simp))
  have HB73 : Hid (Below w.heap.size w (u27.alloc (.cells #[.slice Pa LL.length Pc] 24))) := HB65.out.alloc HB65.out.size _
  clear HB65
  have xA0 : (u27.alloc (.cells #[.slice Pa LL.length Pc] 24)).cell? ⟨w.heap.size, 0, none⟩ = some (.slice aa m.length ac) := KA_66.out.c 0 rfl
  have zA : w.heap.size < (u27.alloc (.cells #[.slice Pa LL.length Pc] 24)).heap.size := KA_66.out.2.2
  have z2A : w.heap.size < (u27.alloc (.cells #[.slice Pa LL.length Pc] 24)).heap.size + 1 := by omega
  have xO0 : (u27.alloc (.cells #[.slice Pa LL.length Pc] 24)).cell? ⟨u26.heap.size, 0, none⟩ = some (.slice Oa BC.length Oc) := KO_71.out.c 0 rfl
  have zO : u26.heap.size < (u27.alloc (.cells #[.slice Pa LL.length Pc] 24)).heap.size := KO_71.out.2.2
  have z2O : u26.heap.size < (u27.alloc (.cells #[.slice Pa LL.length Pc] 24)).heap.size + 1 := by omega
  go_wp2_with fail
  refine (merge2_any _ _ m BC _ (HA.out.step HB73.out) HO.out).mono ?_
  rintro e u28 ⟨⟨um, rfl, hum⟩, b28⟩
  rw [E1.out]
  obtain ⟨Qa, Qc, rfl, htm⟩ := row_tg hum E2.out rfl
  have HQ := Lib.hid htm
  clear hum htm
  replace HM := Lib.hid (HM.out.step b28)
  replace HN := Lib.hid (HN.out.step b28)
  replace HO := Lib.hid (HO.out.step b28)
  replace HP := Lib.hid (HP.out.step b28)
  clear xA0 zA z2A xO0 zO z2O
  have KA_74 := Lib.hid (KA_66.out.step b28)
  clear KA_66
  have KB_75 := Lib.hid (KB_67.out.step b28)
  clear KB_67
  have KC_76 := Lib.hid (KC_68.out.step b28)
  clear KC_68
  have KM_77 := Lib.hid (KM_69.out.step b28)
  clear KM_69
  have KN_78 := Lib.hid (KN_70.out.step b28)
  clear KN_70
  have KO_79 := Lib.hid (KO_71.out.step b28)
  clear KO_71
  have KP_80 := Lib.hid (KP_72.out.step b28)
  clear KP_72
  have HB81 := Lib.hid (keep2 b28 HB73.out)
  clear HB73 b28
  replace HM := Lib.hid (HM.out.step (al u28 (.cells #[.slice Qa LL.length Qc] 24)))
  replace HN := Lib.hid (HN.out.step (al u28 (.cells #[.slice Qa LL.length Qc] 24)))
  replace HO := Lib.hid (HO.out.step (al u28 (.cells #[.slice Qa LL.length Qc] 24)))
  replace HP := Lib.hid (HP.out.step (al u28 (.cells #[.slice Qa LL.length Qc] 24)))
  replace HQ := Lib.hid (HQ.out.step (al u28 (.cells #[.slice Qa LL.length Qc] 24)))
  have KA_82 := Lib.hid (KA_74.out.alloc (.cells #[.slice Qa LL.length Qc] 24))
  clear KA_74
  have KB_83 := Lib.hid (KB_75.out.alloc (.cells #[.slice Qa LL.length Qc] 24))
  clear KB_75
  have KC_84 := Lib.hid (KC_76.out.alloc (.cells #[.slice Qa LL.length Qc] 24))
  clear KC_76
  have KM_85 := Lib.hid (KM_77.out.alloc (.cells #[.slice Qa LL.length Qc] 24))
  clear KM_77
  have KN_86 := Lib.hid (KN_78.out.alloc (.cells #[.slice Qa LL.length Qc] 24))
  clear KN_78
  have KO_87 := Lib.hid (KO_79.out.alloc (.cells #[.slice Qa LL.length Qc] 24))
  clear KO_79
  have KP_88 := Lib.hid (KP_80.out.alloc (.cells #[.slice Qa LL.length Qc] 24))
  clear KP_80
  have KQ_89 := Lib.hid (Cs.new u28 (u28.heap.size) #[.slice Qa LL.length Qc] 24 (by simp))
  have HB90 : Hid (Below w.heap.size w (u28.alloc (.cells #[.slice Qa LL.length Qc] 24))) := HB81.out.alloc HB81.out.size _
  clear HB81
  have xA0 : (u28.alloc (.cells #[.slice Qa LL.length Qc] 24)).cell? ⟨w.heap.size, 0, none⟩ = some (.slice aa m.length ac) := KA_82.out.c 0 rfl
  have zA : w.heap.size < (u28.alloc (.cells #[.slice Qa LL.length Qc] 24)).heap.size := KA_82.out.2.2
  have z2A : w.heap.size < (u28.alloc (.cells #[.slice Qa LL.length Qc] 24)).heap.size + 1 := by omega
  go_wp2_with fail
  refine (merge2_any _ _ m m _ (HA.out.step HB90.out) (HA.out.step HB90.out)).mono ?_
  rintro e u29 ⟨⟨um, rfl, hum⟩, b29⟩
  rw [F1.out]
  obtain ⟨Sa, Sc, rfl, htm⟩ := row_tg hum F2.out rfl
  have HS := Lib.hid htm
  clear hum htm
  replace HM := Lib.hid (HM.out.step b29)
  replace HN := Lib.hid (HN.out.step b29)
  replace HO := Lib.hid (HO.out.step b29)
  replace HP := Lib.hid (HP.out.step b29)
  replace HQ := Lib.hid (HQ.out.step b29)
  clear xA0 zA z2A
  have KA_91 := Lib.hid (KA_82.out.step b29)
  clear KA_82
  have KB_92 := Lib.hid (KB_83.out.step b29)
  clear KB_83
  have KC_93 := Lib.hid (KC_84.out.step b29)
  clear KC_84
  have KM_94 := Lib.hid (KM_85.out.step b29)
  clear KM_85
  have KN_95 := Lib.hid (KN_86.out.step b29)
  clear KN_86
  have KO_96 := Lib.hid (KO_87.out.step b29)
  clear KO_87
  have KP_97 := Lib.hid (KP_88.out.step b29)
  clear KP_88
  have KQ_98 := Lib.hid (KQ_89.out.step b29)
  clear KQ_89
  have HB99 := Lib.hid (keep2 b29 HB90.out)
  clear HB90 b29
  replace HM := Lib.hid (HM.out.step (al u29 (.cells #[.slice Sa m.length Sc] 24)))
  replace HN := Lib.hid (HN.out.step (al u29 (.cells #[.slice Sa m.length Sc] 24)))
  replace HO := Lib.hid (HO.out.step (al u29 (.cells #[.slice Sa m.length Sc] 24)))
  replace HP := Lib.hid (HP.out.step (al u29 (.cells #[.slice Sa m.length Sc] 24)))
  replace HQ := Lib.hid (HQ.out.step (al u29 (.cells #[.slice Sa m.length Sc] 24)))
  replace HS := Lib.hid (HS.out.step (al u29 (.cells #[.slice Sa m.length Sc] 24)))
  have KA_100 := Lib.hid (KA_91.out.alloc (.cells #[.slice Sa m.length Sc] 24))
  clear KA_91
  have KB_101 := Lib.hid (KB_92.out.alloc (.cells #[.slice Sa m.length Sc] 24))
  clear KB_92
  have KC_102 := Lib.hid (KC_93.out.alloc (.cells #[.slice Sa m.length Sc] 24))
  clear KC_93
  have KM_103 := Lib.hid (KM_94.out.alloc (.cells #[.slice Sa m.length Sc] 24))
  clear KM_94
  have KN_104 := Lib.hid (KN_95.out.alloc (.cells #[.slice Sa m.length Sc] 24))
  clear KN_95
  have KO_105 := Lib.hid (KO_96.out.alloc (.cells #[.slice Sa m.length Sc] 24))
  clear KO_96
  have KP_106 := Lib.hid (KP_97.out.alloc (.cells #[.slice Sa m.length Sc] 24))
  clear KP_97
  have KQ_107 := Lib.hid (KQ_98.out.alloc (.cells #[.slice Sa m.length Sc] 24))
  clear KQ_98
  have KS_108 := Lib.hid (Cs.new u29 (u29.heap.size) #[.slice Sa m.length Sc] 24 (by simp))
  have HB109 : Hid (Below w.heap.size w (u29.alloc (.cells #[.slice Sa m.length Sc] 24))) := HB99.out.alloc HB99.out.size _
  clear HB99
  go_wp2_with fail
  obtain ⟨lit, hlit⟩ : ∃ lit : (Nat → Value) → Act, lit = fun vs => { tmps := List.toArray (Value.agg #[Value.slice aa m.length ac] :: Value.agg #[Value.slice ba n.length bc] :: Value.agg #[Value.slice ca p.length cc] :: Value.int IntKind.i64 tg :: Value.pointer (some { block := w.heap.size, off := 0 }) :: Value.pointer (some { block := w.heap.size + 1, off := 0 }) :: Value.pointer (some { block := w.heap.size + 1 + 1, off := 0 }) :: undef :: vs 34 :: Value.bool true :: Value.pointer (some { block := u24.heap.size, off := 0 }) :: Value.int IntKind.i64 0 :: Value.pointer (some { block := u25.heap.size, off := 0 }) :: Value.int IntKind.i64 0 :: Value.pointer (some { block := u26.heap.size, off := 0 }) :: Value.int IntKind.i64 0 :: Value.pointer (some { block := u27.heap.size, off := 0 }) :: Value.int IntKind.i64 0 :: Value.pointer (some { block := u28.heap.size, off := 0 }) :: Value.int IntKind.i64 0 :: Value.pointer (some { block := u29.heap.size, off := 0 }) :: Value.int IntKind.i64 0 :: Value.bool true :: Value.pointer (some { block := w.heap.size, off := 0 }) :: Value.slice aa m.length ac :: Value.int IntKind.i64 (m.length : Int) :: Value.bool false :: Value.bool false :: Value.pointer (some { block := w.heap.size + 1, off := 0 }) :: Value.slice ba n.length bc :: Value.int IntKind.i64 (n.length : Int) :: Value.bool false :: Value.bool false :: Value.bool false :: Value.pointer (some { block := w.heap.size + 1 + 1, off := 0 }) :: Value.slice ca p.length cc :: Value.int IntKind.i64 (p.length : Int) :: Value.bool false :: Value.bool false :: Value.bool false :: Value.agg #[Value.slice aa m.length ac] :: Value.bool true :: Value.bool false :: Value.bool false :: Value.bool false :: Value.agg #[Value.slice ba n.length bc] :: Value.bool true :: Value.bool false :: Value.bool false :: Value.bool false :: Value.agg #[Value.slice ca p.length cc] :: Value.bool true :: Value.bool false :: Value.bool false :: undef :: Value.tuple #[Value.agg #[Value.slice Ma AB.length Mc], Value.int IntKind.i64 0] :: Value.agg #[Value.slice aa m.length ac] :: Value.agg #[Value.slice ba n.length bc] :: Value.tuple #[Value.agg #[Value.slice Ma AB.length Mc], Value.int IntKind.i64 0] :: Value.agg #[Value.slice Ma AB.length Mc] :: Value.int IntKind.i64 0 :: Value.tuple #[Value.agg #[Value.slice Na AB.length Nc], Value.int IntKind.i64 0] :: Value.agg #[Value.slice ba n.length bc] :: Value.agg #[Value.slice aa m.length ac] :: Value.tuple #[Value.agg #[Value.slice Na AB.length Nc], Value.int IntKind.i64 0] :: Value.agg #[Value.slice Na AB.length Nc] :: Value.int IntKind.i64 0 :: Value.tuple #[Value.agg #[Value.slice Oa BC.length Oc], Value.int IntKind.i64 0] :: Value.agg #[Value.slice ba n.length bc] :: Value.agg #[Value.slice ca p.length cc] :: Value.tuple #[Value.agg #[Value.slice Oa BC.length Oc], Value.int IntKind.i64 0] :: Value.agg #[Value.slice Oa BC.length Oc] :: Value.int IntKind.i64 0 :: Value.tuple #[Value.agg #[Value.slice Pa LL.length Pc], Value.int IntKind.i64 0] :: Value.agg #[Value.slice Ma AB.length Mc] :: Value.agg #[Value.slice ca p.length cc] :: Value.tuple #[Value.agg #[Value.slice Pa LL.length Pc], Value.int IntKind.i64 0] :: Value.agg #[Value.slice Pa LL.length Pc] :: Value.int IntKind.i64 0 :: Value.tuple #[Value.agg #[Value.slice Qa LL.length Qc], Value.int IntKind.i64 0] :: Value.agg #[Value.slice aa m.length ac] :: Value.agg #[Value.slice Oa BC.length Oc] :: Value.tuple #[Value.agg #[Value.slice Qa LL.length Qc], Value.int IntKind.i64 0] :: Value.agg #[Value.slice Qa LL.length Qc] :: Value.int IntKind.i64 0 :: Value.tuple #[Value.agg #[Value.slice Sa m.length Sc], Value.int IntKind.i64 0] :: Value.agg #[Value.slice aa m.length ac] :: Value.agg #[Value.slice aa m.length ac] :: Value.tuple #[Value.agg #[Value.slice Sa m.length Sc], Value.int IntKind.i64 0] :: Value.agg #[Value.slice Sa m.length Sc] :: Value.int IntKind.i64 0 :: Value.int IntKind.i64 0 :: Value.bool false :: Value.bool false :: Value.int IntKind.i64 0 :: Value.bool false :: Value.bool false :: Value.bool false :: Value.int IntKind.i64 0 :: Value.bool false :: Value.bool false :: Value.bool false :: Value.int IntKind.i64 0 :: Value.bool false :: Value.bool false :: Value.bool false :: Value.int IntKind.i64 0 :: Value.bool false :: Value.bool false :: Value.bool false :: Value.int IntKind.i64 0 :: Value.bool false :: Value.bool false :: vs 0 :: vs 1 :: vs 2 :: vs 3 :: vs 4 :: vs 5 :: vs 6 :: vs 7 :: vs 8 :: vs 9 :: vs 10 :: vs 11 :: vs 12 :: vs 13 :: vs 14 :: vs 15 :: vs 16 :: vs 17 :: vs 18 :: vs 19 :: vs 20 :: vs 21 :: vs 22 :: vs 23 :: vs 24 :: vs 25 :: vs 26 :: vs 27 :: vs 28 :: vs 29 :: vs 30 :: vs 31 :: vs 32 :: vs 33 :: []), defers := [] } := ⟨_, rfl⟩
  have HLIT := Lib.hid hlit
  clear hlit
  obtain ⟨val, hval⟩ : ∃ val : List Value, val = [.bool true, .bool true, .agg #[.slice Ma AB.length Mc], .bool true, .bool true, .bool true, .agg #[.slice Ma AB.length Mc], .agg #[.slice Na AB.length Nc], .bool true, .bool true, .bool true, .agg #[.slice Pa LL.length Pc], .agg #[.slice Qa LL.length Qc], .bool true, .bool true, .bool true, .agg #[.slice Sa m.length Sc], .agg #[.slice aa m.length ac], .bool true, .bool true, .bool true, .agg #[.slice Ma AB.length Mc], .int .i64 tg, .bool true, .agg #[.slice aa m.length ac], .int .i64 tg, .bool true, .bool true, undef, undef, undef, .bool true, .bool true, .bool true, .bool true] := ⟨_, rfl⟩
  have E0 := Lib.hid (show val.getD 0 undef = .bool true by rw [hval]; rfl)
  have E1 := Lib.hid (show val.getD 1 undef = .bool true by rw [hval]; rfl)
  have E2 := Lib.hid (show val.getD 2 undef = .agg #[.slice Ma AB.length Mc] by rw [hval]; rfl)
  have E3 := Lib.hid (show val.getD 3 undef = .bool true by rw [hval]; rfl)
  have E4 := Lib.hid (show val.getD 4 undef = .bool true by rw [hval]; rfl)
  have E5 := Lib.hid (show val.getD 5 undef = .bool true by rw [hval]; rfl)
  have E6 := Lib.hid (show val.getD 6 undef = .agg #[.slice Ma AB.length Mc] by rw [hval]; rfl)
  have E7 := Lib.hid (show val.getD 7 undef = .agg #[.slice Na AB.length Nc] by rw [hval]; rfl)
  have E8 := Lib.hid (show val.getD 8 undef = .bool true by rw [hval]; rfl)
  have E9 := Lib.hid (show val.getD 9 undef = .bool true by rw [hval]; rfl)
  have E10 := Lib.hid (show val.getD 10 undef = .bool true by rw [hval]; rfl)
  have E11 := Lib.hid (show val.getD 11 undef = .agg #[.slice Pa LL.length Pc] by rw [hval]; rfl)
  have E12 := Lib.hid (show val.getD 12 undef = .agg #[.slice Qa LL.length Qc] by rw [hval]; rfl)
  have E13 := Lib.hid (show val.getD 13 undef = .bool true by rw [hval]; rfl)
  have E14 := Lib.hid (show val.getD 14 undef = .bool true by rw [hval]; rfl)
  have E15 := Lib.hid (show val.getD 15 undef = .bool true by rw [hval]; rfl)
  have E16 := Lib.hid (show val.getD 16 undef = .agg #[.slice Sa m.length Sc] by rw [hval]; rfl)
  have E17 := Lib.hid (show val.getD 17 undef = .agg #[.slice aa m.length ac] by rw [hval]; rfl)
  have E18 := Lib.hid (show val.getD 18 undef = .bool true by rw [hval]; rfl)
  have E19 := Lib.hid (show val.getD 19 undef = .bool true by rw [hval]; rfl)
  have E20 := Lib.hid (show val.getD 20 undef = .bool true by rw [hval]; rfl)
  have E21 := Lib.hid (show val.getD 21 undef = .agg #[.slice Ma AB.length Mc] by rw [hval]; rfl)
  have E22 := Lib.hid (show val.getD 22 undef = .int .i64 tg by rw [hval]; rfl)
  have E23 := Lib.hid (show val.getD 23 undef = .bool true by rw [hval]; rfl)
  have E24 := Lib.hid (show val.getD 24 undef = .agg #[.slice aa m.length ac] by rw [hval]; rfl)
  have E25 := Lib.hid (show val.getD 25 undef = .int .i64 tg by rw [hval]; rfl)
  have E26 := Lib.hid (show val.getD 26 undef = .bool true by rw [hval]; rfl)
  have E27 := Lib.hid (show val.getD 27 undef = .bool true by rw [hval]; rfl)
  have E28 := Lib.hid (show val.getD 28 undef = undef by rw [hval]; rfl)
  have E29 := Lib.hid (show val.getD 29 undef = undef by rw [hval]; rfl)
  have E30 := Lib.hid (show val.getD 30 undef = undef by rw [hval]; rfl)
  have E31 := Lib.hid (show val.getD 31 undef = .bool true by rw [hval]; rfl)
  have E32 := Lib.hid (show val.getD 32 undef = .bool true by rw [hval]; rfl)
  have E33 := Lib.hid (show val.getD 33 undef = .bool true by rw [hval]; rfl)
  have E34 := Lib.hid (show val.getD 34 undef = .bool true by rw [hval]; rfl)
  clear hval
  obtain ⟨G, hG0⟩ : ∃ G : Nat → Value → World → Prop, G = (fun i v w => (v = val.getD i undef)) := ⟨_, rfl⟩
  have HG := Lib.hid hG0
  clear hG0
  refine region_inv (RS lit (u29.alloc (.cells #[.slice Sa m.length Sc] 24)) G) (by kernel_rfl) (by decide +kernel) ?_ ?_ ?_
  · exact ⟨fun i => ([undef, undef, undef, undef, undef, undef, undef, undef, undef, undef, undef, undef, undef, undef, undef, undef, undef, undef, undef, undef, undef, undef, undef, undef, undef, undef, undef, undef, undef, undef, undef, undef, undef, undef, Value.bool false] : List Value).getD i undef, (by rw [HLIT.out]; rfl), below_drew _ _, fun i h => by cases h⟩
  · refine ⟨?_, ?_, ?_, ?_, ?_, ?_, ?_, ?_, ?_, ?_, ?_, ?_, ?_, ?_, ?_, ?_, ?_, ?_, ?_, ?_, ?_, ?_, ?_, ?_, ?_, ?_, ?_, ?_, ?_, ?_, ?_, ?_, ?_, ?_, ?_, trivial⟩
    · intro bf ac wv hfb haf hJ K' hK
      obtain ⟨vs, rfl, hM, j4⟩ := hJ
      replace hK := Lib.hid hK
      replace hM := Lib.hid hM
      rw [HG.out] at j4
      replace j4 := Lib.hid j4
      clear haf hfb
      rw [HLIT.out]
      go_simp
      exact hK.out _ _ (RS.next (wv := wv) (vs := vs) 0 (x := .bool true) (by rw [HLIT.out]; rfl) (by rw [HG.out]; exact j4.out) hM.out (by rw [HG.out]; exact fun _ _ h => h) (by rw [HG.out]; exact E0.out.symm))
    · intro bf ac wv hfb haf hJ K' hK
      obtain ⟨vs, rfl, hM, j4⟩ := hJ
      replace hK := Lib.hid hK
      replace hM := Lib.hid hM
      rw [HG.out] at j4
      simp [Region.binds] at haf
      have e0 := ((j4 0 (by simp [haf]))).trans E0.out
      replace j4 := Lib.hid j4
      clear haf hfb
      rw [HLIT.out]
      go_simp
      exact hK.out _ _ (RS.next (wv := wv) (vs := vs) 1 (x := .bool true) (by rw [HLIT.out]; simp only [upv, e0, Nat.reduceBEq, cond_true, cond_false]) (by rw [HG.out]; exact j4.out) hM.out (by rw [HG.out]; exact fun _ _ h => h) (by rw [HG.out]; exact E1.out.symm))
    · intro bf ac wv hfb haf hJ K' hK
      obtain ⟨vs, rfl, hM, j4⟩ := hJ
      replace hK := Lib.hid hK
      replace hM := Lib.hid hM
      rw [HG.out] at j4
      simp [Region.binds] at haf
      have e1 := ((j4 1 (by simp [haf]))).trans E1.out
      replace j4 := Lib.hid j4
      clear haf hfb
      have K1 := KM_103.out.step hM.out
      have x0 := K1.c 0 rfl
      have xz := K1.2.2
      clear K1
      rw [HLIT.out]
      go_simp
      exact hK.out _ _ (RS.next (wv := wv) (vs := vs) 2 (x := .agg #[.slice Ma AB.length Mc]) (by rw [HLIT.out]; simp only [upv, e1, Nat.reduceBEq, cond_true, cond_false]) (by rw [HG.out]; exact j4.out) hM.out (by rw [HG.out]; exact fun _ _ h => h) (by rw [HG.out]; exact E2.out.symm))
    · intro bf ac wv hfb haf hJ K' hK
      obtain ⟨vs, rfl, hM, j4⟩ := hJ
      replace hK := Lib.hid hK
      replace hM := Lib.hid hM
      rw [HG.out] at j4
      simp [Region.binds] at haf
      have e1 := ((j4 1 (by simp [haf]))).trans E1.out
      have e2 := ((j4 2 (by simp [haf]))).trans E2.out
      replace j4 := Lib.hid j4
      clear haf hfb
      rw [HLIT.out]
      go_simp
      go_at_call 20
      refine (rvalid_any _ AB _ (HM.out.step hM.out).1).mono ?_
      rintro e w4 ⟨rfl, b4⟩
      rw [SAB.out]
      exact hK.out _ _ (RS.next (wv := wv) (vs := vs) 3 (x := .bool true) (by rw [HLIT.out]; simp only [upv, e1, e2, Nat.reduceBEq, cond_true, cond_false]) (by rw [HG.out]; exact j4.out) (keep2 b4 hM.out) (by rw [HG.out]; exact fun _ _ h => h) (by rw [HG.out]; exact E3.out.symm))
    · intro bf ac wv hfb haf hJ K' hK
      obtain ⟨vs, rfl, hM, j4⟩ := hJ
      replace hK := Lib.hid hK
      replace hM := Lib.hid hM
      rw [HG.out] at j4
      simp [Region.binds] at haf
      have e1 := ((j4 1 (by simp [haf]))).trans E1.out
      have e3 := ((j4 3 (by simp [haf]))).trans E3.out
      replace j4 := Lib.hid j4
      clear haf hfb
      rw [HLIT.out]
      go_simp
      exact hK.out _ _ (RS.next (wv := wv) (vs := vs) 4 (x := .bool true) (by rw [HLIT.out]; simp only [upv, e1, e3, Nat.reduceBEq, cond_true, cond_false]) (by rw [HG.out]; exact j4.out) hM.out (by rw [HG.out]; exact fun _ _ h => h) (by rw [HG.out]; exact E4.out.symm))
    · intro bf ac wv hfb haf hJ K' hK
      obtain ⟨vs, rfl, hM, j4⟩ := hJ
      replace hK := Lib.hid hK
      replace hM := Lib.hid hM
      rw [HG.out] at j4
      simp [Region.binds] at haf
      have e4 := ((j4 4 (by simp [haf]))).trans E4.out
      replace j4 := Lib.hid j4
      clear haf hfb
      rw [HLIT.out]
      go_simp
      exact hK.out _ _ (RS.next (wv := wv) (vs := vs) 5 (x := .bool true) (by rw [HLIT.out]; simp only [upv, e4, Nat.reduceBEq, cond_true, cond_false]) (by rw [HG.out]; exact j4.out) hM.out (by rw [HG.out]; exact fun _ _ h => h) (by rw [HG.out]; exact E5.out.symm))
    · intro bf ac wv hfb haf hJ K' hK
      obtain ⟨vs, rfl, hM, j4⟩ := hJ
      replace hK := Lib.hid hK
      replace hM := Lib.hid hM
      rw [HG.out] at j4
      simp [Region.binds] at haf
      have e5 := ((j4 5 (by simp [haf]))).trans E5.out
      replace j4 := Lib.hid j4
      clear haf hfb
      have K1 := KM_103.out.step hM.out
      have x0 := K1.c 0 rfl
      have xz := K1.2.2
      clear K1
      rw [HLIT.out]
      go_simp
      exact hK.out _ _ (RS.next (wv := wv) (vs := vs) 6 (x := .agg #[.slice Ma AB.length Mc]) (by rw [HLIT.out]; simp only [upv, e5, Nat.reduceBEq, cond_true, cond_false]) (by rw [HG.out]; exact j4.out) hM.out (by rw [HG.out]; exact fun _ _ h => h) (by rw [HG.out]; exact E6.out.symm))
    · intro bf ac wv hfb haf hJ K' hK
      obtain ⟨vs, rfl, hM, j4⟩ := hJ
      replace hK := Lib.hid hK
      replace hM := Lib.hid hM
      rw [HG.out] at j4
      simp [Region.binds] at haf
      have e5 := ((j4 5 (by simp [haf]))).trans E5.out
      replace j4 := Lib.hid j4
      clear haf hfb
      have K1 := KN_104.out.step hM.out
      have x0 := K1.c 0 rfl
      have xz := K1.2.2
      clear K1
      rw [HLIT.out]
      go_simp
      exact hK.out _ _ (RS.next (wv := wv) (vs := vs) 7 (x := .agg #[.slice Na AB.length Nc]) (by rw [HLIT.out]; simp only [upv, e5, Nat.reduceBEq, cond_true, cond_false]) (by rw [HG.out]; exact j4.out) hM.out (by rw [HG.out]; exact fun _ _ h => h) (by rw [HG.out]; exact E7.out.symm))
    · intro bf ac wv hfb haf hJ K' hK
      obtain ⟨vs, rfl, hM, j4⟩ := hJ
      replace hK := Lib.hid hK
      replace hM := Lib.hid hM
      rw [HG.out] at j4
      simp [Region.binds] at haf
      have e5 := ((j4 5 (by simp [haf]))).trans E5.out
      have e6 := ((j4 6 (by simp [haf]))).trans E6.out
      have e7 := ((j4 7 (by simp [haf]))).trans E7.out
      replace j4 := Lib.hid j4
      clear haf hfb
      rw [HLIT.out]
      go_simp
      go_at_call 15
      refine (same_any _ _ AB AB _ (HM.out.step hM.out).1 (HN.out.step hM.out).1).mono ?_
      rintro e w4 ⟨rfl, b4⟩
      rw [decide_eq_true (rfl : AB = AB)]
      exact hK.out _ _ (RS.next (wv := wv) (vs := vs) 8 (x := .bool true) (by rw [HLIT.out]; simp only [upv, e5, e6, e7, Nat.reduceBEq, cond_true, cond_false]) (by rw [HG.out]; exact j4.out) (keep2 b4 hM.out) (by rw [HG.out]; exact fun _ _ h => h) (by rw [HG.out]; exact E8.out.symm))
    · intro bf ac wv hfb haf hJ K' hK
      obtain ⟨vs, rfl, hM, j4⟩ := hJ
      replace hK := Lib.hid hK
      replace hM := Lib.hid hM
      rw [HG.out] at j4
      simp [Region.binds] at haf
      have e5 := ((j4 5 (by simp [haf]))).trans E5.out
      have e8 := ((j4 8 (by simp [haf]))).trans E8.out
      replace j4 := Lib.hid j4
      clear haf hfb
      rw [HLIT.out]
      go_simp
      exact hK.out _ _ (RS.next (wv := wv) (vs := vs) 9 (x := .bool true) (by rw [HLIT.out]; simp only [upv, e5, e8, Nat.reduceBEq, cond_true, cond_false]) (by rw [HG.out]; exact j4.out) hM.out (by rw [HG.out]; exact fun _ _ h => h) (by rw [HG.out]; exact E9.out.symm))
    · intro bf ac wv hfb haf hJ K' hK
      obtain ⟨vs, rfl, hM, j4⟩ := hJ
      replace hK := Lib.hid hK
      replace hM := Lib.hid hM
      rw [HG.out] at j4
      simp [Region.binds] at haf
      have e9 := ((j4 9 (by simp [haf]))).trans E9.out
      replace j4 := Lib.hid j4
      clear haf hfb
      rw [HLIT.out]
      go_simp
      exact hK.out _ _ (RS.next (wv := wv) (vs := vs) 10 (x := .bool true) (by rw [HLIT.out]; simp only [upv, e9, Nat.reduceBEq, cond_true, cond_false]) (by rw [HG.out]; exact j4.out) hM.out (by rw [HG.out]; exact fun _ _ h => h) (by rw [HG.out]; exact E10.out.symm))
    · intro bf ac wv hfb haf hJ K' hK
      obtain ⟨vs, rfl, hM, j4⟩ := hJ
      replace hK := Lib.hid hK
      replace hM := Lib.hid hM
      rw [HG.out] at j4
      simp [Region.binds] at haf
      have e10 := ((j4 10 (by simp [haf]))).trans E10.out
      replace j4 := Lib.hid j4
      clear haf hfb
      have K1 := KP_106.out.step hM.out
      have x0 := K1.c 0 rfl
      have xz := K1.2.2
      clear K1
      rw [HLIT.out]
      go_simp
      exact hK.out _ _ (RS.next (wv := wv) (vs := vs) 11 (x := .agg #[.slice Pa LL.length Pc]) (by rw [HLIT.out]; simp only [upv, e10, Nat.reduceBEq, cond_true, cond_false]) (by rw [HG.out]; exact j4.out) hM.out (by rw [HG.out]; exact fun _ _ h => h) (by rw [HG.out]; exact E11.out.symm))
    · intro bf ac wv hfb haf hJ K' hK
      obtain ⟨vs, rfl, hM, j4⟩ := hJ
      replace hK := Lib.hid hK
      replace hM := Lib.hid hM
      rw [HG.out] at j4
      simp [Region.binds] at haf
      have e10 := ((j4 10 (by simp [haf]))).trans E10.out
      replace j4 := Lib.hid j4
      clear haf hfb
      have K1 := KQ_107.out.step hM.out
      have x0 := K1.c 0 rfl
      have xz := K1.2.2
      clear K1
      rw [HLIT.out]
      go_simp
      exact hK.out _ _ (RS.next (wv := wv) (vs := vs) 12 (x := .agg #[.slice Qa LL.length Qc]) (by rw [HLIT.out]; simp only [upv, e10, Nat.reduceBEq, cond_true, cond_false]) (by rw [HG.out]; exact j4.out) hM.out (by rw [HG.out]; exact fun _ _ h => h) (by rw [HG.out]; exact E12.out.symm))
    · intro bf ac wv hfb haf hJ K' hK
      obtain ⟨vs, rfl, hM, j4⟩ := hJ
      replace hK := Lib.hid hK
      replace hM := Lib.hid hM
      rw [HG.out] at j4
      simp [Region.binds] at haf
      have e10 := ((j4 10 (by simp [haf]))).trans E10.out
      have e11 := ((j4 11 (by simp [haf]))).trans E11.out
      have e12 := ((j4 12 (by simp [haf]))).trans E12.out
      replace j4 := Lib.hid j4
      clear haf hfb
      rw [HLIT.out]
      go_simp
      go_at_call 15
      refine (same_any _ _ LL LL _ (HP.out.step hM.out).1 (HQ.out.step hM.out).1).mono ?_
      rintro e w4 ⟨rfl, b4⟩
      rw [decide_eq_true (rfl : LL = LL)]
      exact hK.out _ _ (RS.next (wv := wv) (vs := vs) 13 (x := .bool true) (by rw [HLIT.out]; simp only [upv, e10, e11, e12, Nat.reduceBEq, cond_true, cond_false]) (by rw [HG.out]; exact j4.out) (keep2 b4 hM.out) (by rw [HG.out]; exact fun _ _ h => h) (by rw [HG.out]; exact E13.out.symm))
    · intro bf ac wv hfb haf hJ K' hK
      obtain ⟨vs, rfl, hM, j4⟩ := hJ
      replace hK := Lib.hid hK
      replace hM := Lib.hid hM
      rw [HG.out] at j4
      simp [Region.binds] at haf
      have e10 := ((j4 10 (by simp [haf]))).trans E10.out
      have e13 := ((j4 13 (by simp [haf]))).trans E13.out
      replace j4 := Lib.hid j4
      clear haf hfb
      rw [HLIT.out]
      go_simp
      exact hK.out _ _ (RS.next (wv := wv) (vs := vs) 14 (x := .bool true) (by rw [HLIT.out]; simp only [upv, e10, e13, Nat.reduceBEq, cond_true, cond_false]) (by rw [HG.out]; exact j4.out) hM.out (by rw [HG.out]; exact fun _ _ h => h) (by rw [HG.out]; exact E14.out.symm))
    · intro bf ac wv hfb haf hJ K' hK
      obtain ⟨vs, rfl, hM, j4⟩ := hJ
      replace hK := Lib.hid hK
      replace hM := Lib.hid hM
      rw [HG.out] at j4
      simp [Region.binds] at haf
      have e14 := ((j4 14 (by simp [haf]))).trans E14.out
      replace j4 := Lib.hid j4
      clear haf hfb
      rw [HLIT.out]
      go_simp
      exact hK.out _ _ (RS.next (wv := wv) (vs := vs) 15 (x := .bool true) (by rw [HLIT.out]; simp only [upv, e14, Nat.reduceBEq, cond_true, cond_false]) (by rw [HG.out]; exact j4.out) hM.out (by rw [HG.out]; exact fun _ _ h => h) (by rw [HG.out]; exact E15.out.symm))
    · intro bf ac wv hfb haf hJ K' hK
      obtain ⟨vs, rfl, hM, j4⟩ := hJ
      replace hK := Lib.hid hK
      replace hM := Lib.hid hM
      rw [HG.out] at j4
      simp [Region.binds] at haf
      have e15 := ((j4 15 (by simp [haf]))).trans E15.out
      replace j4 := Lib.hid j4
      clear haf hfb
      have K1 := KS_108.out.step hM.out
      have x0 := K1.c 0 rfl
      have xz := K1.2.2
      clear K1
      rw [HLIT.out]
      go_simp
      exact hK.out _ _ (RS.next (wv := wv) (vs := vs) 16 (x := .agg #[.slice Sa m.length Sc]) (by rw [HLIT.out]; simp only [upv, e15, Nat.reduceBEq, cond_true, cond_false]) (by rw [HG.out]; exact j4.out) hM.out (by rw [HG.out]; exact fun _ _ h => h) (by rw [HG.out]; exact E16.out.symm))
    · intro bf ac wv hfb haf hJ K' hK
      obtain ⟨vs, rfl, hM, j4⟩ := hJ
      replace hK := Lib.hid hK
      replace hM := Lib.hid hM
      rw [HG.out] at j4
      simp [Region.binds] at haf
      have e15 := ((j4 15 (by simp [haf]))).trans E15.out
      replace j4 := Lib.hid j4
      clear haf hfb
      have K1 := KA_100.out.step hM.out
      have x0 := K1.c 0 rfl
      have xz := K1.2.2
      clear K1
      rw [HLIT.out]
      go_simp
      exact hK.out _ _ (RS.next (wv := wv) (vs := vs) 17 (x := .agg #[.slice aa m.length ac]) (by rw [HLIT.out]; simp only [upv, e15, Nat.reduceBEq, cond_true, cond_false]) (by rw [HG.out]; exact j4.out) hM.out (by rw [HG.out]; exact fun _ _ h => h) (by rw [HG.out]; exact E17.out.symm))
    · intro bf ac wv hfb haf hJ K' hK
      obtain ⟨vs, rfl, hM, j4⟩ := hJ
      replace hK := Lib.hid hK
      replace hM := Lib.hid hM
      rw [HG.out] at j4
      simp [Region.binds] at haf
      have e15 := ((j4 15 (by simp [haf]))).trans E15.out
      have e16 := ((j4 16 (by simp [haf]))).trans E16.out
      have e17 := ((j4 17 (by simp [haf]))).trans E17.out
      replace j4 := Lib.hid j4
      clear haf hfb
      rw [HLIT.out]
      go_simp
      go_at_call 15
      refine (same_any _ _ m m _ (HS.out.step hM.out).1 ((HA.out.step HB109.out).step hM.out).1).mono ?_
      rintro e w4 ⟨rfl, b4⟩
      rw [decide_eq_true (rfl : m = m)]
      exact hK.out _ _ (RS.next (wv := wv) (vs := vs) 18 (x := .bool true) (by rw [HLIT.out]; simp only [upv, e15, e16, e17, Nat.reduceBEq, cond_true, cond_false]) (by rw [HG.out]; exact j4.out) (keep2 b4 hM.out) (by rw [HG.out]; exact fun _ _ h => h) (by rw [HG.out]; exact E18.out.symm))
    · intro bf ac wv hfb haf hJ K' hK
      obtain ⟨vs, rfl, hM, j4⟩ := hJ
      replace hK := Lib.hid hK
      replace hM := Lib.hid hM
      rw [HG.out] at j4
      simp [Region.binds] at haf
      have e15 := ((j4 15 (by simp [haf]))).trans E15.out
      have e18 := ((j4 18 (by simp [haf]))).trans E18.out
      replace j4 := Lib.hid j4
      clear haf hfb
      rw [HLIT.out]
      go_simp
      exact hK.out _ _ (RS.next (wv := wv) (vs := vs) 19 (x := .bool true) (by rw [HLIT.out]; simp only [upv, e15, e18, Nat.reduceBEq, cond_true, cond_false]) (by rw [HG.out]; exact j4.out) hM.out (by rw [HG.out]; exact fun _ _ h => h) (by rw [HG.out]; exact E19.out.symm))
    · intro bf ac wv hfb haf hJ K' hK
      obtain ⟨vs, rfl, hM, j4⟩ := hJ
      replace hK := Lib.hid hK
      replace hM := Lib.hid hM
      rw [HG.out] at j4
      simp [Region.binds] at haf
      have e19 := ((j4 19 (by simp [haf]))).trans E19.out
      replace j4 := Lib.hid j4
      clear haf hfb
      rw [HLIT.out]
      go_simp
      exact hK.out _ _ (RS.next (wv := wv) (vs := vs) 20 (x := .bool true) (by rw [HLIT.out]; simp only [upv, e19, Nat.reduceBEq, cond_true, cond_false]) (by rw [HG.out]; exact j4.out) hM.out (by rw [HG.out]; exact fun _ _ h => h) (by rw [HG.out]; exact E20.out.symm))
    · intro bf ac wv hfb haf hJ K' hK
      obtain ⟨vs, rfl, hM, j4⟩ := hJ
      replace hK := Lib.hid hK
      replace hM := Lib.hid hM
      rw [HG.out] at j4
      simp [Region.binds] at haf
      have e20 := ((j4 20 (by simp [haf]))).trans E20.out
      replace j4 := Lib.hid j4
      clear haf hfb
      have K1 := KM_103.out.step hM.out
      have x0 := K1.c 0 rfl
      have xz := K1.2.2
      clear K1
      rw [HLIT.out]
      go_simp
      exact hK.out _ _ (RS.next (wv := wv) (vs := vs) 21 (x := .agg #[.slice Ma AB.length Mc]) (by rw [HLIT.out]; simp only [upv, e20, Nat.reduceBEq, cond_true, cond_false]) (by rw [HG.out]; exact j4.out) hM.out (by rw [HG.out]; exact fun _ _ h => h) (by rw [HG.out]; exact E21.out.symm))
    · intro bf ac wv hfb haf hJ K' hK
      obtain ⟨vs, rfl, hM, j4⟩ := hJ
      replace hK := Lib.hid hK
      replace hM := Lib.hid hM
      rw [HG.out] at j4
      simp [Region.binds] at haf
      have e20 := ((j4 20 (by simp [haf]))).trans E20.out
      replace j4 := Lib.hid j4
      clear haf hfb
      rw [HLIT.out]
      go_simp
      exact hK.out _ _ (RS.next (wv := wv) (vs := vs) 22 (x := .int .i64 tg) (by rw [HLIT.out]; simp only [upv, e20, Nat.reduceBEq, cond_true, cond_false]) (by rw [HG.out]; exact j4.out) hM.out (by rw [HG.out]; exact fun _ _ h => h) (by rw [HG.out]; exact E22.out.symm))
    · intro bf ac wv hfb haf hJ K' hK
      obtain ⟨vs, rfl, hM, j4⟩ := hJ
      replace hK := Lib.hid hK
      replace hM := Lib.hid hM
      rw [HG.out] at j4
      simp [Region.binds] at haf
      have e20 := ((j4 20 (by simp [haf]))).trans E20.out
      have e21 := ((j4 21 (by simp [haf]))).trans E21.out
      have e22 := ((j4 22 (by simp [haf]))).trans E22.out
      replace j4 := Lib.hid j4
      clear haf hfb
      rw [HLIT.out]
      go_simp
      go_at_call 16
      refine (has2_any _ AB tg _ (HM.out.step hM.out).1 HTGB.out).mono ?_
      rintro e w4 ⟨rfl, b4⟩
      rw [HAB.out]
      exact hK.out _ _ (RS.next (wv := wv) (vs := vs) 23 (x := .bool true) (by rw [HLIT.out]; simp only [upv, e20, e21, e22, Nat.reduceBEq, cond_true, cond_false]) (by rw [HG.out]; exact j4.out) (keep2 b4 hM.out) (by rw [HG.out]; exact fun _ _ h => h) (by rw [HG.out]; exact E23.out.symm))
    · intro bf ac wv hfb haf hJ K' hK
      obtain ⟨vs, rfl, hM, j4⟩ := hJ
      replace hK := Lib.hid hK
      replace hM := Lib.hid hM
      rw [HG.out] at j4
      simp [Region.binds] at haf
      have e20 := ((j4 20 (by simp [haf]))).trans E20.out
      replace j4 := Lib.hid j4
      clear haf hfb
      have K1 := KA_100.out.step hM.out
      have x0 := K1.c 0 rfl
      have xz := K1.2.2
      clear K1
      rw [HLIT.out]
      go_simp
      exact hK.out _ _ (RS.next (wv := wv) (vs := vs) 24 (x := .agg #[.slice aa m.length ac]) (by rw [HLIT.out]; simp only [upv, e20, Nat.reduceBEq, cond_true, cond_false]) (by rw [HG.out]; exact j4.out) hM.out (by rw [HG.out]; exact fun _ _ h => h) (by rw [HG.out]; exact E24.out.symm))
    · intro bf ac wv hfb haf hJ K' hK
      obtain ⟨vs, rfl, hM, j4⟩ := hJ
      replace hK := Lib.hid hK
      replace hM := Lib.hid hM
      rw [HG.out] at j4
      simp [Region.binds] at haf
      have e20 := ((j4 20 (by simp [haf]))).trans E20.out
      replace j4 := Lib.hid j4
      clear haf hfb
      rw [HLIT.out]
      go_simp
      exact hK.out _ _ (RS.next (wv := wv) (vs := vs) 25 (x := .int .i64 tg) (by rw [HLIT.out]; simp only [upv, e20, Nat.reduceBEq, cond_true, cond_false]) (by rw [HG.out]; exact j4.out) hM.out (by rw [HG.out]; exact fun _ _ h => h) (by rw [HG.out]; exact E25.out.symm))
    · intro bf ac wv hfb haf hJ K' hK
      obtain ⟨vs, rfl, hM, j4⟩ := hJ
      replace hK := Lib.hid hK
      replace hM := Lib.hid hM
      rw [HG.out] at j4
      simp [Region.binds] at haf
      have e20 := ((j4 20 (by simp [haf]))).trans E20.out
      have e24 := ((j4 24 (by simp [haf]))).trans E24.out
      have e25 := ((j4 25 (by simp [haf]))).trans E25.out
      replace j4 := Lib.hid j4
      clear haf hfb
      rw [HLIT.out]
      go_simp
      go_at_call 16
      refine (has2_any _ m tg _ ((HA.out.step HB109.out).step hM.out).1 HTGB.out).mono ?_
      rintro e w4 ⟨rfl, b4⟩
      rw [HPT.out]
      exact hK.out _ _ (RS.next (wv := wv) (vs := vs) 26 (x := .bool true) (by rw [HLIT.out]; simp only [upv, e20, e24, e25, Nat.reduceBEq, cond_true, cond_false]) (by rw [HG.out]; exact j4.out) (keep2 b4 hM.out) (by rw [HG.out]; exact fun _ _ h => h) (by rw [HG.out]; exact E26.out.symm))
    · intro bf ac wv hfb haf hJ K' hK
      obtain ⟨vs, rfl, hM, j4⟩ := hJ
      replace hK := Lib.hid hK
      replace hM := Lib.hid hM
      rw [HG.out] at j4
      simp [Region.binds] at haf
      have e20 := ((j4 20 (by simp [haf]))).trans E20.out
      have e26 := ((j4 26 (by simp [haf]))).trans E26.out
      replace j4 := Lib.hid j4
      clear haf hfb
      rw [HLIT.out]
      go_simp
      exact hK.out _ _ (RS.next (wv := wv) (vs := vs) 27 (x := .bool true) (by rw [HLIT.out]; simp only [upv, e20, e26, Nat.reduceBEq, cond_true, cond_false]) (by rw [HG.out]; exact j4.out) hM.out (by rw [HG.out]; exact fun _ _ h => h) (by rw [HG.out]; exact E27.out.symm))
    · intro bf ac wv hfb haf hJ K' hK
      obtain ⟨vs, rfl, hM, j4⟩ := hJ
      replace hK := Lib.hid hK
      replace hM := Lib.hid hM
      rw [HG.out] at j4
      simp [Region.binds] at haf
      have e27 := ((j4 27 (by simp [haf]))).trans E27.out
      replace j4 := Lib.hid j4
      clear haf hfb
      rw [HLIT.out]
      go_simp
      exact hK.out _ _ (RS.next (wv := wv) (vs := vs) 28 (x := undef) (by rw [HLIT.out]; simp only [upv, e27, Nat.reduceBEq, cond_true, cond_false]) (by rw [HG.out]; exact j4.out) hM.out (by rw [HG.out]; exact fun _ _ h => h) (by rw [HG.out]; exact E28.out.symm))
    · intro bf ac wv hfb haf hJ K' hK
      obtain ⟨vs, rfl, hM, j4⟩ := hJ
      replace hK := Lib.hid hK
      replace hM := Lib.hid hM
      rw [HG.out] at j4
      simp [Region.binds] at haf
      have e27 := ((j4 27 (by simp [haf]))).trans E27.out
      replace j4 := Lib.hid j4
      clear haf hfb
      rw [HLIT.out]
      go_simp
      exact hK.out _ _ (RS.next (wv := wv) (vs := vs) 29 (x := undef) (by rw [HLIT.out]; simp only [upv, e27, Nat.reduceBEq, cond_true, cond_false]) (by rw [HG.out]; exact j4.out) hM.out (by rw [HG.out]; exact fun _ _ h => h) (by rw [HG.out]; exact E29.out.symm))
    · intro bf ac wv hfb haf hJ K' hK
      obtain ⟨vs, rfl, hM, j4⟩ := hJ
      replace hK := Lib.hid hK
      replace hM := Lib.hid hM
      rw [HG.out] at j4
      simp [Region.binds] at haf
      have e27 := ((j4 27 (by simp [haf]))).trans E27.out
      replace j4 := Lib.hid j4
      clear haf hfb
      rw [HLIT.out]
      go_simp
      exact hK.out _ _ (RS.next (wv := wv) (vs := vs) 30 (x := undef) (by rw [HLIT.out]; simp only [upv, e27, Nat.reduceBEq, cond_true, cond_false]) (by rw [HG.out]; exact j4.out) hM.out (by rw [HG.out]; exact fun _ _ h => h) (by rw [HG.out]; exact E30.out.symm))
    · intro bf ac wv hfb haf hJ K' hK
      obtain ⟨vs, rfl, hM, j4⟩ := hJ
      replace hK := Lib.hid hK
      replace hM := Lib.hid hM
      rw [HG.out] at j4
      simp [Region.binds] at haf
      have e20 := ((j4 20 (by simp [haf]))).trans E20.out
      have e27 := ((j4 27 (by simp [haf]))).trans E27.out
      have e30 := ((j4 30 (by simp [haf]))).trans E30.out
      replace j4 := Lib.hid j4
      clear haf hfb
      rw [HLIT.out]
      go_simp
      exact hK.out _ _ (RS.next (wv := wv) (vs := vs) 31 (x := .bool true) (by rw [HLIT.out]; simp only [upv, e20, e27, e30, Nat.reduceBEq, cond_true, cond_false]) (by rw [HG.out]; exact j4.out) hM.out (by rw [HG.out]; exact fun _ _ h => h) (by rw [HG.out]; exact E31.out.symm))
    · intro bf ac wv hfb haf hJ K' hK
      obtain ⟨vs, rfl, hM, j4⟩ := hJ
      replace hK := Lib.hid hK
      replace hM := Lib.hid hM
      rw [HG.out] at j4
      simp [Region.binds] at haf
      have e20 := ((j4 20 (by simp [haf]))).trans E20.out
      have e23 := ((j4 23 (by simp [haf]))).trans E23.out
      have e31 := ((j4 31 (by simp [haf]))).trans E31.out
      replace j4 := Lib.hid j4
      clear haf hfb
      rw [HLIT.out]
      go_simp
      exact hK.out _ _ (RS.next (wv := wv) (vs := vs) 32 (x := .bool true) (by rw [HLIT.out]; simp only [upv, e20, e23, e31, Nat.reduceBEq, cond_true, cond_false]) (by rw [HG.out]; exact j4.out) hM.out (by rw [HG.out]; exact fun _ _ h => h) (by rw [HG.out]; exact E32.out.symm))
    · intro bf ac wv hfb haf hJ K' hK
      obtain ⟨vs, rfl, hM, j4⟩ := hJ
      replace hK := Lib.hid hK
      replace hM := Lib.hid hM
      rw [HG.out] at j4
      simp [Region.binds] at haf
      have e20 := ((j4 20 (by simp [haf]))).trans E20.out
      have e32 := ((j4 32 (by simp [haf]))).trans E32.out
      replace j4 := Lib.hid j4
      clear haf hfb
      rw [HLIT.out]
      go_simp
      exact hK.out _ _ (RS.next (wv := wv) (vs := vs) 33 (x := .bool true) (by rw [HLIT.out]; simp only [upv, e20, e32, Nat.reduceBEq, cond_true, cond_false]) (by rw [HG.out]; exact j4.out) hM.out (by rw [HG.out]; exact fun _ _ h => h) (by rw [HG.out]; exact E33.out.symm))
    · intro bf ac wv hfb haf hJ K' hK
      obtain ⟨vs, rfl, hM, j4⟩ := hJ
      replace hK := Lib.hid hK
      replace hM := Lib.hid hM
      rw [HG.out] at j4
      simp [Region.binds] at haf
      have e33 := ((j4 33 (by simp [haf]))).trans E33.out
      replace j4 := Lib.hid j4
      clear haf hfb
      rw [HLIT.out]
      go_simp
      exact hK.out _ _ (RS.next (wv := wv) (vs := vs) 34 (x := .bool true) (by rw [HLIT.out]; simp only [upv, e33, Nat.reduceBEq, cond_true, cond_false]) (by rw [HG.out]; exact j4.out) hM.out (by rw [HG.out]; exact fun _ _ h => h) (by rw [HG.out]; exact E34.out.symm))
  · intro bf ac wv hall hJ
    obtain ⟨vs, rfl, hM, j4⟩ := hJ
    rw [HG.out] at j4
    have ez := ((j4 34 (hall 34 (by decide)))).trans E34.out
    have HB9 := Lib.hid (keep2 hM HB109.out)
    clear hall j4 hM
    rw [HLIT.out]
    dsimp only
    rw [ez]
    clear ez
    go_wp2
    go_ret
    exact ⟨rfl, HB9.out⟩
set_option maxRecDepth 100000 in
set_option maxHeartbeats 4000000 in
theorem merges_q (va : Value) (m : List Int) (vb : Value) (n : List Int) (vc : Value) (p : List Int) (tg : Int) (w : World) (ha : TgAt w va m) (hb : TgAt w vb n) (hc : TgAt w vc p) (hg : -9223372036854775808 ≤ tg ∧ tg ≤ 9223372036854775807) (h1 : m.length ≤ 50) (h2 : n.length ≤ 50) (h3 : p.length ≤ 50) (s1 : stB m = true) (s2 : stB n = true) (s3 : stB p = true) (hp : hsB m tg = false) : Calls Try.prog 5 #[.agg #[va], .agg #[vb], .agg #[vc], .int .i64 tg] w fun e w' => e = .returned (.bool true) ∧ Below w.heap.size w w' := by
  have HA := Lib.hid ha
  have HB := Lib.hid hb
  have HC := Lib.hid hc
  have HTGB := Lib.hid hg
  clear hg
  obtain ⟨⟨aa, ac, rfl, ham, -⟩, -⟩ := ha
  obtain ⟨⟨ba, bc, rfl, hbm, -⟩, -⟩ := hb
  obtain ⟨⟨ca, cc, rfl, hcm, -⟩, -⟩ := hc
  unfold maxLen at ham hbm hcm
  have g0 : decide (((m).length : Int) > 50) = false := by simp; omega
  have g0' : decide ((50 : Int) < ((m).length : Int)) = false := by simp; omega
  have g1 : decide (((n).length : Int) > 50) = false := by simp; omega
  have g1' : decide ((50 : Int) < ((n).length : Int)) = false := by simp; omega
  have g2 : decide (((p).length : Int) > 50) = false := by simp; omega
  have g2' : decide ((50 : Int) < ((p).length : Int)) = false := by simp; omega
  obtain ⟨AB, BC, LL, ⟨⟨a1, a2⟩, ⟨b1, b2⟩, ⟨c1, c2⟩⟩, ⟨⟨d1, d2⟩, ⟨e1, e2⟩, ⟨f1, f2⟩⟩, k1, k2⟩ := merge_facts tg s1 s2 s3 h1 h2 h3
  have A1 := Lib.hid a1
  have A2 := Lib.hid a2
  clear a1 a2
  have B1 := Lib.hid b1
  have B2 := Lib.hid b2
  clear b1 b2
  have C1 := Lib.hid c1
  have C2 := Lib.hid c2
  clear c1 c2
  have D1 := Lib.hid d1
  have D2 := Lib.hid d2
  clear d1 d2
  have E1 := Lib.hid e1
  have E2 := Lib.hid e2
  clear e1 e2
  have F1 := Lib.hid f1
  have F2 := Lib.hid f2
  clear f1 f2
  have SAB := Lib.hid k1
  obtain ⟨bb, hbb⟩ : ∃ bb, hsB n tg = bb := ⟨_, rfl⟩
  rw [hp, hbb] at k2
  have HAB := Lib.hid k2
  have HPT := Lib.hid hp
  replace hbb := Lib.hid hbb
  clear hp k1 k2
  simp only [Bool.false_or] at HAB
  have S1 := Lib.hid s1
  clear s1
  have S2 := Lib.hid s2
  clear s2
  have S3 := Lib.hid s3
  clear s3
  have HB0 := Lib.hid (Below.refl w.heap.size w)
  go_enter Try.func5, Try.ntmps5
  have KA_1 := Lib.hid (Cs.new w (w.heap.size) #[.slice aa m.length ac] 24 (by simp))
  have HB2 : Hid (Below w.heap.size w (w.alloc (.cells #[.slice aa m.length ac] 24))) := HB0.out.alloc HB0.out.size _
  clear HB0
  have KA_3 := Lib.hid (KA_1.out.alloc (.cells #[.slice ba n.length bc] 24))
  clear KA_1
  have KB_4 := Lib.hid (Cs.new (w.alloc (.cells #[.slice aa m.length ac] 24)) (w.heap.size + 1) #[.slice ba n.length bc] 24 (by simp))
  have HB5 : Hid (Below w.heap.size w ((w.alloc (.cells #[.slice aa m.length ac] 24)).alloc (.cells #[.slice ba n.length bc] 24))) := HB2.out.alloc HB2.out.size _
  clear HB2
  have KA_6 := Lib.hid (KA_3.out.alloc (.cells #[.slice ca p.length cc] 24))
  clear KA_3
  have KB_7 := Lib.hid (KB_4.out.alloc (.cells #[.slice ca p.length cc] 24))
  clear KB_4
  have KC_8 := Lib.hid (Cs.new ((w.alloc (.cells #[.slice aa m.length ac] 24)).alloc (.cells #[.slice ba n.length bc] 24)) (w.heap.size + 1 + 1) #[.slice ca p.length cc] 24 (by simp))
  have HB9 : Hid (Below w.heap.size w (((w.alloc (.cells #[.slice aa m.length ac] 24)).alloc (.cells #[.slice ba n.length bc] 24)).alloc (.cells #[.slice ca p.length cc] 24))) := HB5.out.alloc HB5.out.size _
  clear HB5
  go_wp2_with fail
  refine (head_any _).mono ?_
  rintro e u1 ⟨rfl, b1⟩
  have KA_10 := Lib.hid (KA_6.out.step b1)
  clear KA_6
  have KB_11 := Lib.hid (KB_7.out.step b1)
  clear KB_7
  have KC_12 := Lib.hid (KC_8.out.step b1)
  clear KC_8
  have HB13 := Lib.hid (keep2 b1 HB9.out)
  clear HB9 b1
  have xA0 : u1.cell? ⟨w.heap.size, 0, none⟩ = some (.slice aa m.length ac) := KA_10.out.c 0 rfl
  have zA : w.heap.size < u1.heap.size := KA_10.out.2.2
  have z2A : w.heap.size < u1.heap.size + 1 := by omega
  have xB0 : u1.cell? ⟨w.heap.size + 1, 0, none⟩ = some (.slice ba n.length bc) := KB_11.out.c 0 rfl
  have zB : w.heap.size + 1 < u1.heap.size := KB_11.out.2.2
  have z2B : w.heap.size + 1 < u1.heap.size + 1 := by omega
  have xC0 : u1.cell? ⟨w.heap.size + 1 + 1, 0, none⟩ = some (.slice ca p.length cc) := KC_12.out.c 0 rfl
  have zC : w.heap.size + 1 + 1 < u1.heap.size := KC_12.out.2.2
  have z2C : w.heap.size + 1 + 1 < u1.heap.size + 1 := by omega
  go_wp2_with fail
  refine (rvalid_any _ m _ (HA.out.step HB13.out).1).mono ?_
  rintro e u2 ⟨rfl, b2⟩
  clear xA0 zA z2A xB0 zB z2B xC0 zC z2C
  have KA_14 := Lib.hid (KA_10.out.step b2)
  clear KA_10
  have KB_15 := Lib.hid (KB_11.out.step b2)
  clear KB_11
  have KC_16 := Lib.hid (KC_12.out.step b2)
  clear KC_12
  have HB17 := Lib.hid (keep2 b2 HB13.out)
  clear HB13 b2
  rw [S1.out]
  have xB0 : u2.cell? ⟨w.heap.size + 1, 0, none⟩ = some (.slice ba n.length bc) := KB_15.out.c 0 rfl
  have zB : w.heap.size + 1 < u2.heap.size := KB_15.out.2.2
  have z2B : w.heap.size + 1 < u2.heap.size + 1 := by omega
  go_wp2_with fail
  refine (rvalid_any _ n _ (HB.out.step HB17.out).1).mono ?_
  rintro e u3 ⟨rfl, b3⟩
  clear xB0 zB z2B
  have KA_18 := Lib.hid (KA_14.out.step b3)
  clear KA_14
  have KB_19 := Lib.hid (KB_15.out.step b3)
  clear KB_15
  have KC_20 := Lib.hid (KC_16.out.step b3)
  clear KC_16
  have HB21 := Lib.hid (keep2 b3 HB17.out)
  clear HB17 b3
  rw [S2.out]
  have xC0 : u3.cell? ⟨w.heap.size + 1 + 1, 0, none⟩ = some (.slice ca p.length cc) := KC_20.out.c 0 rfl
  have zC : w.heap.size + 1 + 1 < u3.heap.size := KC_20.out.2.2
  have z2C : w.heap.size + 1 + 1 < u3.heap.size + 1 := by omega
  go_wp2_with fail
  refine (rvalid_any _ p _ (HC.out.step HB21.out).1).mono ?_
  rintro e u4 ⟨rfl, b4⟩
  clear xC0 zC z2C
  have KA_22 := Lib.hid (KA_18.out.step b4)
  clear KA_18
  have KB_23 := Lib.hid (KB_19.out.step b4)
  clear KB_19
  have KC_24 := Lib.hid (KC_20.out.step b4)
  clear KC_20
  have HB25 := Lib.hid (keep2 b4 HB21.out)
  clear HB21 b4
  rw [S3.out]
  have xA0 : u4.cell? ⟨w.heap.size, 0, none⟩ = some (.slice aa m.length ac) := KA_22.out.c 0 rfl
  have zA : w.heap.size < u4.heap.size := KA_22.out.2.2
  have z2A : w.heap.size < u4.heap.size + 1 := by omega
  have xB0 : u4.cell? ⟨w.heap.size + 1, 0, none⟩ = some (.slice ba n.length bc) := KB_23.out.c 0 rfl
  have zB : w.heap.size + 1 < u4.heap.size := KB_23.out.2.2
  have z2B : w.heap.size + 1 < u4.heap.size + 1 := by omega
  go_wp2_with fail
  refine (merge2_any _ _ m n _ (HA.out.step HB25.out) (HB.out.step HB25.out)).mono ?_
  rintro e u24 ⟨⟨um, rfl, hum⟩, b24⟩
  rw [A1.out]
  obtain ⟨Ma, Mc, rfl, htm⟩ := row_tg hum A2.out rfl
  have HM := Lib.hid htm
  clear hum htm
  clear xA0 zA z2A xB0 zB z2B
  have KA_26 := Lib.hid (KA_22.out.step b24)
  clear KA_22
  have KB_27 := Lib.hid (KB_23.out.step b24)
  clear KB_23
  have KC_28 := Lib.hid (KC_24.out.step b24)
  clear KC_24
  have HB29 := Lib.hid (keep2 b24 HB25.out)
  clear HB25 b24
  replace HM := Lib.hid (HM.out.step (al u24 (.cells #[.slice Ma AB.length Mc] 24)))
  have KA_30 := Lib.hid (KA_26.out.alloc (.cells #[.slice Ma AB.length Mc] 24))
  clear KA_26
  have KB_31 := Lib.hid (KB_27.out.alloc (.cells #[.slice Ma AB.length Mc] 24))
  clear KB_27
  have KC_32 := Lib.hid (KC_28.out.alloc (.cells #[.slice Ma AB.length Mc] 24))
  clear KC_28
  have KM_33 := Lib.hid (Cs.new u24 (u24.heap.size) #[.slice Ma AB.length Mc] 24 (by simp))
  have HB34 : Hid (Below w.heap.size w (u24.alloc (.cells #[.slice Ma AB.length Mc] 24))) := HB29.out.alloc HB29.out.size _
  clear HB29
  have xA0 : (u24.alloc (.cells #[.slice Ma AB.length Mc] 24)).cell? ⟨w.heap.size, 0, none⟩ = some (.slice aa m.length ac) := KA_30.out.c 0 rfl
  have zA : w.heap.size < (u24.alloc (.cells #[.slice Ma AB.length Mc] 24)).heap.size := KA_30.out.2.2
  have z2A : w.heap.size < (u24.alloc (.cells #[.slice Ma AB.length Mc] 24)).heap.size + 1 := by omega
  have xB0 : (u24.alloc (.cells #[.slice Ma AB.length Mc] 24)).cell? ⟨w.heap.size + 1, 0, none⟩ = some (.slice ba n.length bc) := KB_31.out.c 0 rfl
  have zB : w.heap.size + 1 < (u24.alloc (.cells #[.slice Ma AB.length Mc] 24)).heap.size := KB_31.out.2.2
  have z2B : w.heap.size + 1 < (u24.alloc (.cells #[.slice Ma AB.length Mc] 24)).heap.size + 1 := by omega
  go_wp2_with fail
  refine (merge2_any _ _ n m _ (HB.out.step HB34.out) (HA.out.step HB34.out)).mono ?_
  rintro e u25 ⟨⟨um, rfl, hum⟩, b25⟩
  rw [B1.out]
  obtain ⟨Na, Nc, rfl, htm⟩ := row_tg hum B2.out rfl
  have HN := Lib.hid htm
  clear hum htm
  replace HM := Lib.hid (HM.out.step b25)
  clear xA0 zA z2A xB0 zB z2B
  have KA_35 := Lib.hid (KA_30.out.step b25)
  clear KA_30
  have KB_36 := Lib.hid (KB_31.out.step b25)
  clear KB_31
  have KC_37 := Lib.hid (KC_32.out.step b25)
  clear KC_32
  have KM_38 := Lib.hid (KM_33.out.step b25)
  clear KM_33
  have HB39 := Lib.hid (keep2 b25 HB34.out)
  clear HB34 b25
  replace HM := Lib.hid (HM.out.step (al u25 (.cells #[.slice Na AB.length Nc] 24)))
  replace HN := Lib.hid (HN.out.step (al u25 (.cells #[.slice Na AB.length Nc] 24)))
  have KA_40 := Lib.hid (KA_35.out.alloc (.cells #[.slice Na AB.length Nc] 24))
  clear KA_35
  have KB_41 := Lib.hid (KB_36.out.alloc (.cells #[.slice Na AB.length Nc] 24))
  clear KB_36
  have KC_42 := Lib.hid (KC_37.out.alloc (.cells #[.slice Na AB.length Nc] 24))
  clear KC_37
  have KM_43 := Lib.hid (KM_38.out.alloc (.cells #[.slice Na AB.length Nc] 24))
  clear KM_38
  have KN_44 := Lib.hid (Cs.new u25 (u25.heap.size) #[.slice Na AB.length Nc] 24 (by simp))
  have HB45 : Hid (Below w.heap.size w (u25.alloc (.cells #[.slice Na AB.length Nc] 24))) := HB39.out.alloc HB39.out.size _
  clear HB39
  have xB0 : (u25.alloc (.cells #[.slice Na AB.length Nc] 24)).cell? ⟨w.heap.size + 1, 0, none⟩ = some (.slice ba n.length bc) := KB_41.out.c 0 rfl
  have zB : w.heap.size + 1 < (u25.alloc (.cells #[.slice Na AB.length Nc] 24)).heap.size := KB_41.out.2.2
  have z2B : w.heap.size + 1 < (u25.alloc (.cells #[.slice Na AB.length Nc] 24)).heap.size + 1 := by omega
  have xC0 : (u25.alloc (.cells #[.slice Na AB.length Nc] 24)).cell? ⟨w.heap.size + 1 + 1, 0, none⟩ = some (.slice ca p.length cc) := KC_42.out.c 0 rfl
  have zC : w.heap.size + 1 + 1 < (u25.alloc (.cells #[.slice Na AB.length Nc] 24)).heap.size := KC_42.out.2.2
  have z2C : w.heap.size + 1 + 1 < (u25.alloc (.cells #[.slice Na AB.length Nc] 24)).heap.size + 1 := by omega
  go_wp2_with fail
  refine (merge2_any _ _ n p _ (HB.out.step HB45.out) (HC.out.step HB45.out)).mono ?_
  rintro e u26 ⟨⟨um, rfl, hum⟩, b26⟩
  rw [C1.out]
  obtain ⟨Oa, Oc, rfl, htm⟩ := row_tg hum C2.out rfl
  have HO := Lib.hid htm
  clear hum htm
  replace HM := Lib.hid (HM.out.step b26)
  replace HN := Lib.hid (HN.out.step b26)
  clear xB0 zB z2B xC0 zC z2C
  have KA_46 := Lib.hid (KA_40.out.step b26)
  clear KA_40
  have KB_47 := Lib.hid (KB_41.out.step b26)
  clear KB_41
  have KC_48 := Lib.hid (KC_42.out.step b26)
  clear KC_42
  have KM_49 := Lib.hid (KM_43.out.step b26)
  clear KM_43
  have KN_50 := Lib.hid (KN_44.out.step b26)
  clear KN_44
  have HB51 := Lib.hid (keep2 b26 HB45.out)
  clear HB45 b26
  replace HM := Lib.hid (HM.out.step (al u26 (.cells #[.slice Oa BC.length Oc] 24)))
  replace HN := Lib.hid (HN.out.step (al u26 (.cells #[.slice Oa BC.length Oc] 24)))
  replace HO := Lib.hid (HO.out.step (al u26 (.cells #[.slice Oa BC.length Oc] 24)))
  have KA_52 := Lib.hid (KA_46.out.alloc (.cells #[.slice Oa BC.length Oc] 24))
  clear KA_46
  have KB_53 := Lib.hid (KB_47.out.alloc (.cells #[.slice Oa BC.length Oc] 24))
  clear KB_47
  have KC_54 := Lib.hid (KC_48.out.alloc (.cells #[.slice Oa BC.length Oc] 24))
  clear KC_48
  have KM_55 := Lib.hid (KM_49.out.alloc (.cells #[.slice Oa BC.length Oc] 24))
  clear KM_49
  have KN_56 := Lib.hid (KN_50.out.alloc (.cells #[.slice Oa BC.length Oc] 24))
  clear KN_50
  have KO_57 := Lib.hid (Cs.new u26 (u26.heap.size) #[.slice Oa BC.length Oc] 24 (by simp))
  have HB58 : Hid (Below w.heap.size w (u26.alloc (.cells #[.slice Oa BC.length Oc] 24))) := HB51.out.alloc HB51.out.size _
  clear HB51
  have xC0 : (u26.alloc (.cells #[.slice Oa BC.length Oc] 24)).cell? ⟨w.heap.size + 1 + 1, 0, none⟩ = some (.slice ca p.length cc) := KC_54.out.c 0 rfl
  have zC : w.heap.size + 1 + 1 < (u26.alloc (.cells #[.slice Oa BC.length Oc] 24)).heap.size := KC_54.out.2.2
  have z2C : w.heap.size + 1 + 1 < (u26.alloc (.cells #[.slice Oa BC.length Oc] 24)).heap.size + 1 := by omega
  have xM0 : (u26.alloc (.cells #[.slice Oa BC.length Oc] 24)).cell? ⟨u24.heap.size, 0, none⟩ = some (.slice Ma AB.length Mc) := KM_55.out.c 0 rfl
  have zM : u24.heap.size < (u26.alloc (.cells #[.slice Oa BC.length Oc] 24)).heap.size := KM_55.out.2.2
  have z2M : u24.heap.size < (u26.alloc (.cells #[.slice Oa BC.length Oc] 24)).heap.size + 1 := by omega
  go_wp2_with fail
  refine (merge2_any _ _ AB p _ HM.out (HC.out.step HB58.out)).mono ?_
  rintro e u27 ⟨⟨um, rfl, hum⟩, b27⟩
  rw [D1.out]
  obtain ⟨Pa, Pc, rfl, htm⟩ := row_tg hum D2.out rfl
  have HP := Lib.hid htm
  clear hum htm
  replace HM := Lib.hid (HM.out.step b27)
  replace HN := Lib.hid (HN.out.step b27)
  replace HO := Lib.hid (HO.out.step b27)
  clear xC0 zC z2C xM0 zM z2M
  have KA_59 := Lib.hid (KA_52.out.step b27)
  clear KA_52
  have KB_60 := Lib.hid (KB_53.out.step b27)
  clear KB_53
  have KC_61 := Lib.hid (KC_54.out.step b27)
  clear KC_54
  have KM_62 := Lib.hid (KM_55.out.step b27)
  clear KM_55
  have KN_63 := Lib.hid (KN_56.out.step b27)
  clear KN_56
  have KO_64 := Lib.hid (KO_57.out.step b27)
  clear KO_57
  have HB65 := Lib.hid (keep2 b27 HB58.out)
  clear HB58 b27
  replace HM := Lib.hid (HM.out.step (al u27 (.cells #[.slice Pa LL.length Pc] 24)))
  replace HN := Lib.hid (HN.out.step (al u27 (.cells #[.slice Pa LL.length Pc] 24)))
  replace HO := Lib.hid (HO.out.step (al u27 (.cells #[.slice Pa LL.length Pc] 24)))
  replace HP := Lib.hid (HP.out.step (al u27 (.cells #[.slice Pa LL.length Pc] 24)))
  have KA_66 := Lib.hid (KA_59.out.alloc (.cells #[.slice Pa LL.length Pc] 24))
  clear KA_59
  have KB_67 := Lib.hid (KB_60.out.alloc (.cells #[.slice Pa LL.length Pc] 24))
  clear KB_60
  have KC_68 := Lib.hid (KC_61.out.alloc (.cells #[.slice Pa LL.length Pc] 24))
  clear KC_61
  have KM_69 := Lib.hid (KM_62.out.alloc (.cells #[.slice Pa LL.length Pc] 24))
  clear KM_62
  have KN_70 := Lib.hid (KN_63.out.alloc (.cells #[.slice Pa LL.length Pc] 24))
  clear KN_63
  have KO_71 := Lib.hid (KO_64.out.alloc (.cells #[.slice Pa LL.length Pc] 24))
  clear KO_64
  have KP_72 := Lib.hid (Cs.new u27 (u27.heap.size) #[.slice Pa LL.length Pc] 24 (by simp))
  have HB73 : Hid (Below w.heap.size w (u27.alloc (.cells #[.slice Pa LL.length Pc] 24))) := HB65.out.alloc HB65.out.size _
  clear HB65
  have xA0 : (u27.alloc (.cells #[.slice Pa LL.length Pc] 24)).cell? ⟨w.heap.size, 0, none⟩ = some (.slice aa m.length ac) := KA_66.out.c 0 rfl
  have zA : w.heap.size < (u27.alloc (.cells #[.slice Pa LL.length Pc] 24)).heap.size := KA_66.out.2.2
  have z2A : w.heap.size < (u27.alloc (.cells #[.slice Pa LL.length Pc] 24)).heap.size + 1 := by omega
  have xO0 : (u27.alloc (.cells #[.slice Pa LL.length Pc] 24)).cell? ⟨u26.heap.size, 0, none⟩ = some (.slice Oa BC.length Oc) := KO_71.out.c 0 rfl
  have zO : u26.heap.size < (u27.alloc (.cells #[.slice Pa LL.length Pc] 24)).heap.size := KO_71.out.2.2
  have z2O : u26.heap.size < (u27.alloc (.cells #[.slice Pa LL.length Pc] 24)).heap.size + 1 := by omega
  go_wp2_with fail
  refine (merge2_any _ _ m BC _ (HA.out.step HB73.out) HO.out).mono ?_
  rintro e u28 ⟨⟨um, rfl, hum⟩, b28⟩
  rw [E1.out]
  obtain ⟨Qa, Qc, rfl, htm⟩ := row_tg hum E2.out rfl
  have HQ := Lib.hid htm
  clear hum htm
  replace HM := Lib.hid (HM.out.step b28)
  replace HN := Lib.hid (HN.out.step b28)
  replace HO := Lib.hid (HO.out.step b28)
  replace HP := Lib.hid (HP.out.step b28)
  clear xA0 zA z2A xO0 zO z2O
  have KA_74 := Lib.hid (KA_66.out.step b28)
  clear KA_66
  have KB_75 := Lib.hid (KB_67.out.step b28)
  clear KB_67
  have KC_76 := Lib.hid (KC_68.out.step b28)
  clear KC_68
  have KM_77 := Lib.hid (KM_69.out.step b28)
  clear KM_69
  have KN_78 := Lib.hid (KN_70.out.step b28)
  clear KN_70
  have KO_79 := Lib.hid (KO_71.out.step b28)
  clear KO_71
  have KP_80 := Lib.hid (KP_72.out.step b28)
  clear KP_72
  have HB81 := Lib.hid (keep2 b28 HB73.out)
  clear HB73 b28
  replace HM := Lib.hid (HM.out.step (al u28 (.cells #[.slice Qa LL.length Qc] 24)))
  replace HN := Lib.hid (HN.out.step (al u28 (.cells #[.slice Qa LL.length Qc] 24)))
  replace HO := Lib.hid (HO.out.step (al u28 (.cells #[.slice Qa LL.length Qc] 24)))
  replace HP := Lib.hid (HP.out.step (al u28 (.cells #[.slice Qa LL.length Qc] 24)))
  replace HQ := Lib.hid (HQ.out.step (al u28 (.cells #[.slice Qa LL.length Qc] 24)))
  have KA_82 := Lib.hid (KA_74.out.alloc (.cells #[.slice Qa LL.length Qc] 24))
  clear KA_74
  have KB_83 := Lib.hid (KB_75.out.alloc (.cells #[.slice Qa LL.length Qc] 24))
  clear KB_75
  have KC_84 := Lib.hid (KC_76.out.alloc (.cells #[.slice Qa LL.length Qc] 24))
  clear KC_76
  have KM_85 := Lib.hid (KM_77.out.alloc (.cells #[.slice Qa LL.length Qc] 24))
  clear KM_77
  have KN_86 := Lib.hid (KN_78.out.alloc (.cells #[.slice Qa LL.length Qc] 24))
  clear KN_78
  have KO_87 := Lib.hid (KO_79.out.alloc (.cells #[.slice Qa LL.length Qc] 24))
  clear KO_79
  have KP_88 := Lib.hid (KP_80.out.alloc (.cells #[.slice Qa LL.length Qc] 24))
  clear KP_80
  have KQ_89 := Lib.hid (Cs.new u28 (u28.heap.size) #[.slice Qa LL.length Qc] 24 (by simp))
  have HB90 : Hid (Below w.heap.size w (u28.alloc (.cells #[.slice Qa LL.length Qc] 24))) := HB81.out.alloc HB81.out.size _
  clear HB81
  have xA0 : (u28.alloc (.cells #[.slice Qa LL.length Qc] 24)).cell? ⟨w.heap.size, 0, none⟩ = some (.slice aa m.length ac) := KA_82.out.c 0 rfl
  have zA : w.heap.size < (u28.alloc (.cells #[.slice Qa LL.length Qc] 24)).heap.size := KA_82.out.2.2
  have z2A : w.heap.size < (u28.alloc (.cells #[.slice Qa LL.length Qc] 24)).heap.size + 1 := by omega
  go_wp2_with fail
  refine (merge2_any _ _ m m _ (HA.out.step HB90.out) (HA.out.step HB90.out)).mono ?_
  rintro e u29 ⟨⟨um, rfl, hum⟩, b29⟩
  rw [F1.out]
  obtain ⟨Sa, Sc, rfl, htm⟩ := row_tg hum F2.out rfl
  have HS := Lib.hid htm
  clear hum htm
  replace HM := Lib.hid (HM.out.step b29)
  replace HN := Lib.hid (HN.out.step b29)
  replace HO := Lib.hid (HO.out.step b29)
  replace HP := Lib.hid (HP.out.step b29)
  replace HQ := Lib.hid (HQ.out.step b29)
  clear xA0 zA z2A
  have KA_91 := Lib.hid (KA_82.out.step b29)
  clear KA_82
  have KB_92 := Lib.hid (KB_83.out.step b29)
  clear KB_83
  have KC_93 := Lib.hid (KC_84.out.step b29)
  clear KC_84
  have KM_94 := Lib.hid (KM_85.out.step b29)
  clear KM_85
  have KN_95 := Lib.hid (KN_86.out.step b29)
  clear KN_86
  have KO_96 := Lib.hid (KO_87.out.step b29)
  clear KO_87
  have KP_97 := Lib.hid (KP_88.out.step b29)
  clear KP_88
  have KQ_98 := Lib.hid (KQ_89.out.step b29)
  clear KQ_89
  have HB99 := Lib.hid (keep2 b29 HB90.out)
  clear HB90 b29
  replace HM := Lib.hid (HM.out.step (al u29 (.cells #[.slice Sa m.length Sc] 24)))
  replace HN := Lib.hid (HN.out.step (al u29 (.cells #[.slice Sa m.length Sc] 24)))
  replace HO := Lib.hid (HO.out.step (al u29 (.cells #[.slice Sa m.length Sc] 24)))
  replace HP := Lib.hid (HP.out.step (al u29 (.cells #[.slice Sa m.length Sc] 24)))
  replace HQ := Lib.hid (HQ.out.step (al u29 (.cells #[.slice Sa m.length Sc] 24)))
  replace HS := Lib.hid (HS.out.step (al u29 (.cells #[.slice Sa m.length Sc] 24)))
  have KA_100 := Lib.hid (KA_91.out.alloc (.cells #[.slice Sa m.length Sc] 24))
  clear KA_91
  have KB_101 := Lib.hid (KB_92.out.alloc (.cells #[.slice Sa m.length Sc] 24))
  clear KB_92
  have KC_102 := Lib.hid (KC_93.out.alloc (.cells #[.slice Sa m.length Sc] 24))
  clear KC_93
  have KM_103 := Lib.hid (KM_94.out.alloc (.cells #[.slice Sa m.length Sc] 24))
  clear KM_94
  have KN_104 := Lib.hid (KN_95.out.alloc (.cells #[.slice Sa m.length Sc] 24))
  clear KN_95
  have KO_105 := Lib.hid (KO_96.out.alloc (.cells #[.slice Sa m.length Sc] 24))
  clear KO_96
  have KP_106 := Lib.hid (KP_97.out.alloc (.cells #[.slice Sa m.length Sc] 24))
  clear KP_97
  have KQ_107 := Lib.hid (KQ_98.out.alloc (.cells #[.slice Sa m.length Sc] 24))
  clear KQ_98
  have KS_108 := Lib.hid (Cs.new u29 (u29.heap.size) #[.slice Sa m.length Sc] 24 (by simp))
  have HB109 : Hid (Below w.heap.size w (u29.alloc (.cells #[.slice Sa m.length Sc] 24))) := HB99.out.alloc HB99.out.size _
  clear HB99
  go_wp2_with fail
  obtain ⟨lit, hlit⟩ : ∃ lit : (Nat → Value) → Act, lit = fun vs => { tmps := List.toArray (Value.agg #[Value.slice aa m.length ac] :: Value.agg #[Value.slice ba n.length bc] :: Value.agg #[Value.slice ca p.length cc] :: Value.int IntKind.i64 tg :: Value.pointer (some { block := w.heap.size, off := 0 }) :: Value.pointer (some { block := w.heap.size + 1, off := 0 }) :: Value.pointer (some { block := w.heap.size + 1 + 1, off := 0 }) :: undef :: vs 34 :: Value.bool true :: Value.pointer (some { block := u24.heap.size, off := 0 }) :: Value.int IntKind.i64 0 :: Value.pointer (some { block := u25.heap.size, off := 0 }) :: Value.int IntKind.i64 0 :: Value.pointer (some { block := u26.heap.size, off := 0 }) :: Value.int IntKind.i64 0 :: Value.pointer (some { block := u27.heap.size, off := 0 }) :: Value.int IntKind.i64 0 :: Value.pointer (some { block := u28.heap.size, off := 0 }) :: Value.int IntKind.i64 0 :: Value.pointer (some { block := u29.heap.size, off := 0 }) :: Value.int IntKind.i64 0 :: Value.bool true :: Value.pointer (some { block := w.heap.size, off := 0 }) :: Value.slice aa m.length ac :: Value.int IntKind.i64 (m.length : Int) :: Value.bool false :: Value.bool false :: Value.pointer (some { block := w.heap.size + 1, off := 0 }) :: Value.slice ba n.length bc :: Value.int IntKind.i64 (n.length : Int) :: Value.bool false :: Value.bool false :: Value.bool false :: Value.pointer (some { block := w.heap.size + 1 + 1, off := 0 }) :: Value.slice ca p.length cc :: Value.int IntKind.i64 (p.length : Int) :: Value.bool false :: Value.bool false :: Value.bool false :: Value.agg #[Value.slice aa m.length ac] :: Value.bool true :: Value.bool false :: Value.bool false :: Value.bool false :: Value.agg #[Value.slice ba n.length bc] :: Value.bool true :: Value.bool false :: Value.bool false :: Value.bool false :: Value.agg #[Value.slice ca p.length cc] :: Value.bool true :: Value.bool false :: Value.bool false :: undef :: Value.tuple #[Value.agg #[Value.slice Ma AB.length Mc], Value.int IntKind.i64 0] :: Value.agg #[Value.slice aa m.length ac] :: Value.agg #[Value.slice ba n.length bc] :: Value.tuple #[Value.agg #[Value.slice Ma AB.length Mc], Value.int IntKind.i64 0] :: Value.agg #[Value.slice Ma AB.length Mc] :: Value.int IntKind.i64 0 :: Value.tuple #[Value.agg #[Value.slice Na AB.length Nc], Value.int IntKind.i64 0] :: Value.agg #[Value.slice ba n.length bc] :: Value.agg #[Value.slice aa m.length ac] :: Value.tuple #[Value.agg #[Value.slice Na AB.length Nc], Value.int IntKind.i64 0] :: Value.agg #[Value.slice Na AB.length Nc] :: Value.int IntKind.i64 0 :: Value.tuple #[Value.agg #[Value.slice Oa BC.length Oc], Value.int IntKind.i64 0] :: Value.agg #[Value.slice ba n.length bc] :: Value.agg #[Value.slice ca p.length cc] :: Value.tuple #[Value.agg #[Value.slice Oa BC.length Oc], Value.int IntKind.i64 0] :: Value.agg #[Value.slice Oa BC.length Oc] :: Value.int IntKind.i64 0 :: Value.tuple #[Value.agg #[Value.slice Pa LL.length Pc], Value.int IntKind.i64 0] :: Value.agg #[Value.slice Ma AB.length Mc] :: Value.agg #[Value.slice ca p.length cc] :: Value.tuple #[Value.agg #[Value.slice Pa LL.length Pc], Value.int IntKind.i64 0] :: Value.agg #[Value.slice Pa LL.length Pc] :: Value.int IntKind.i64 0 :: Value.tuple #[Value.agg #[Value.slice Qa LL.length Qc], Value.int IntKind.i64 0] :: Value.agg #[Value.slice aa m.length ac] :: Value.agg #[Value.slice Oa BC.length Oc] :: Value.tuple #[Value.agg #[Value.slice Qa LL.length Qc], Value.int IntKind.i64 0] :: Value.agg #[Value.slice Qa LL.length Qc] :: Value.int IntKind.i64 0 :: Value.tuple #[Value.agg #[Value.slice Sa m.length Sc], Value.int IntKind.i64 0] :: Value.agg #[Value.slice aa m.length ac] :: Value.agg #[Value.slice aa m.length ac] :: Value.tuple #[Value.agg #[Value.slice Sa m.length Sc], Value.int IntKind.i64 0] :: Value.agg #[Value.slice Sa m.length Sc] :: Value.int IntKind.i64 0 :: Value.int IntKind.i64 0 :: Value.bool false :: Value.bool false :: Value.int IntKind.i64 0 :: Value.bool false :: Value.bool false :: Value.bool false :: Value.int IntKind.i64 0 :: Value.bool false :: Value.bool false :: Value.bool false :: Value.int IntKind.i64 0 :: Value.bool false :: Value.bool false :: Value.bool false :: Value.int IntKind.i64 0 :: Value.bool false :: Value.bool false :: Value.bool false :: Value.int IntKind.i64 0 :: Value.bool false :: Value.bool false :: vs 0 :: vs 1 :: vs 2 :: vs 3 :: vs 4 :: vs 5 :: vs 6 :: vs 7 :: vs 8 :: vs 9 :: vs 10 :: vs 11 :: vs 12 :: vs 13 :: vs 14 :: vs 15 :: vs 16 :: vs 17 :: vs 18 :: vs 19 :: vs 20 :: vs 21 :: vs 22 :: vs 23 :: vs 24 :: vs 25 :: vs 26 :: vs 27 :: vs 28 :: vs 29 :: vs 30 :: vs 31 :: vs 32 :: vs 33 :: []), defers := [] } := ⟨_, rfl⟩
  have HLIT := Lib.hid hlit
  clear hlit
  obtain ⟨val, hval⟩ : ∃ val : List Value, val = [.bool true, .bool true, .agg #[.slice Ma AB.length Mc], .bool true, .bool true, .bool true, .agg #[.slice Ma AB.length Mc], .agg #[.slice Na AB.length Nc], .bool true, .bool true, .bool true, .agg #[.slice Pa LL.length Pc], .agg #[.slice Qa LL.length Qc], .bool true, .bool true, .bool true, .agg #[.slice Sa m.length Sc], .agg #[.slice aa m.length ac], .bool true, .bool true, .bool true, .agg #[.slice Ma AB.length Mc], .int .i64 tg, .bool bb, .agg #[.slice aa m.length ac], .int .i64 tg, .bool false, .bool false, .agg #[.slice ba n.length bc], .int .i64 tg, .bool bb, .bool bb, .bool true, .bool true, .bool true] := ⟨_, rfl⟩
  have E0 := Lib.hid (show val.getD 0 undef = .bool true by rw [hval]; rfl)
  have E1 := Lib.hid (show val.getD 1 undef = .bool true by rw [hval]; rfl)
  have E2 := Lib.hid (show val.getD 2 undef = .agg #[.slice Ma AB.length Mc] by rw [hval]; rfl)
  have E3 := Lib.hid (show val.getD 3 undef = .bool true by rw [hval]; rfl)
  have E4 := Lib.hid (show val.getD 4 undef = .bool true by rw [hval]; rfl)
  have E5 := Lib.hid (show val.getD 5 undef = .bool true by rw [hval]; rfl)
  have E6 := Lib.hid (show val.getD 6 undef = .agg #[.slice Ma AB.length Mc] by rw [hval]; rfl)
  have E7 := Lib.hid (show val.getD 7 undef = .agg #[.slice Na AB.length Nc] by rw [hval]; rfl)
  have E8 := Lib.hid (show val.getD 8 undef = .bool true by rw [hval]; rfl)
  have E9 := Lib.hid (show val.getD 9 undef = .bool true by rw [hval]; rfl)
  have E10 := Lib.hid (show val.getD 10 undef = .bool true by rw [hval]; rfl)
  have E11 := Lib.hid (show val.getD 11 undef = .agg #[.slice Pa LL.length Pc] by rw [hval]; rfl)
  have E12 := Lib.hid (show val.getD 12 undef = .agg #[.slice Qa LL.length Qc] by rw [hval]; rfl)
  have E13 := Lib.hid (show val.getD 13 undef = .bool true by rw [hval]; rfl)
  have E14 := Lib.hid (show val.getD 14 undef = .bool true by rw [hval]; rfl)
  have E15 := Lib.hid (show val.getD 15 undef = .bool true by rw [hval]; rfl)
  have E16 := Lib.hid (show val.getD 16 undef = .agg #[.slice Sa m.length Sc] by rw [hval]; rfl)
  have E17 := Lib.hid (show val.getD 17 undef = .agg #[.slice aa m.length ac] by rw [hval]; rfl)
  have E18 := Lib.hid (show val.getD 18 undef = .bool true by rw [hval]; rfl)
  have E19 := Lib.hid (show val.getD 19 undef = .bool true by rw [hval]; rfl)
  have E20 := Lib.hid (show val.getD 20 undef = .bool true by rw [hval]; rfl)
  have E21 := Lib.hid (show val.getD 21 undef = .agg #[.slice Ma AB.length Mc] by rw [hval]; rfl)
  have E22 := Lib.hid (show val.getD 22 undef = .int .i64 tg by rw [hval]; rfl)
  have E23 := Lib.hid (show val.getD 23 undef = .bool bb by rw [hval]; rfl)
  have E24 := Lib.hid (show val.getD 24 undef = .agg #[.slice aa m.length ac] by rw [hval]; rfl)
  have E25 := Lib.hid (show val.getD 25 undef = .int .i64 tg by rw [hval]; rfl)
  have E26 := Lib.hid (show val.getD 26 undef = .bool false by rw [hval]; rfl)
  have E27 := Lib.hid (show val.getD 27 undef = .bool false by rw [hval]; rfl)
  have E28 := Lib.hid (show val.getD 28 undef = .agg #[.slice ba n.length bc] by rw [hval]; rfl)
  have E29 := Lib.hid (show val.getD 29 undef = .int .i64 tg by rw [hval]; rfl)
  have E30 := Lib.hid (show val.getD 30 undef = .bool bb by rw [hval]; rfl)
  have E31 := Lib.hid (show val.getD 31 undef = .bool bb by rw [hval]; rfl)
  have E32 := Lib.hid (show val.getD 32 undef = .bool true by rw [hval]; rfl)
  have E33 := Lib.hid (show val.getD 33 undef = .bool true by rw [hval]; rfl)
  have E34 := Lib.hid (show val.getD 34 undef = .bool true by rw [hval]; rfl)
  clear hval
  obtain ⟨G, hG0⟩ : ∃ G : Nat → Value → World → Prop, G = (fun i v w => (v = val.getD i undef)) := ⟨_, rfl⟩
  have HG := Lib.hid hG0
  clear hG0
  refine region_inv (RS lit (u29.alloc (.cells #[.slice Sa m.length Sc] 24)) G) (by kernel_rfl) (by decide +kernel) ?_ ?_ ?_
  · exact ⟨fun i => ([undef, undef, undef, undef, undef, undef, undef, undef, undef, undef, undef, undef, undef, undef, undef, undef, undef, undef, undef, undef, undef, undef, undef, undef, undef, undef, undef, undef, undef, undef, undef, undef, undef, undef, Value.bool false] : List Value).getD i undef, (by rw [HLIT.out]; rfl), below_drew _ _, fun i h => by cases h⟩
  · refine ⟨?_, ?_, ?_, ?_, ?_, ?_, ?_, ?_, ?_, ?_, ?_, ?_, ?_, ?_, ?_, ?_, ?_, ?_, ?_, ?_, ?_, ?_, ?_, ?_, ?_, ?_, ?_, ?_, ?_, ?_, ?_, ?_, ?_, ?_, ?_, trivial⟩
    · intro bf ac wv hfb haf hJ K' hK
      obtain ⟨vs, rfl, hM, j4⟩ := hJ
      replace hK := Lib.hid hK
      replace hM := Lib.hid hM
      rw [HG.out] at j4
      replace j4 := Lib.hid j4
      clear haf hfb
      rw [HLIT.out]
      go_simp
      exact hK.out _ _ (RS.next (wv := wv) (vs := vs) 0 (x := .bool true) (by rw [HLIT.out]; rfl) (by rw [HG.out]; exact j4.out) hM.out (by rw [HG.out]; exact fun _ _ h => h) (by rw [HG.out]; exact E0.out.symm))
    · intro bf ac wv hfb haf hJ K' hK
      obtain ⟨vs, rfl, hM, j4⟩ := hJ
      replace hK := Lib.hid hK
      replace hM := Lib.hid hM
      rw [HG.out] at j4
      simp [Region.binds] at haf
      have e0 := ((j4 0 (by simp [haf]))).trans E0.out
      replace j4 := Lib.hid j4
      clear haf hfb
      rw [HLIT.out]
      go_simp
      exact hK.out _ _ (RS.next (wv := wv) (vs := vs) 1 (x := .bool true) (by rw [HLIT.out]; simp only [upv, e0, Nat.reduceBEq, cond_true, cond_false]) (by rw [HG.out]; exact j4.out) hM.out (by rw [HG.out]; exact fun _ _ h => h) (by rw [HG.out]; exact E1.out.symm))
    · intro bf ac wv hfb haf hJ K' hK
      obtain ⟨vs, rfl, hM, j4⟩ := hJ
      replace hK := Lib.hid hK
      replace hM := Lib.hid hM
      rw [HG.out] at j4
      simp [Region.binds] at haf
      have e1 := ((j4 1 (by simp [haf]))).trans E1.out
      replace j4 := Lib.hid j4
      clear haf hfb
      have K1 := KM_103.out.step hM.out
      have x0 := K1.c 0 rfl
      have xz := K1.2.2
      clear K1
      rw [HLIT.out]
      go_simp
      exact hK.out _ _ (RS.next (wv := wv) (vs := vs) 2 (x := .agg #[.slice Ma AB.length Mc]) (by rw [HLIT.out]; simp only [upv, e1, Nat.reduceBEq, cond_true, cond_false]) (by rw [HG.out]; exact j4.out) hM.out (by rw [HG.out]; exact fun _ _ h => h) (by rw [HG.out]; exact E2.out.symm))
    · intro bf ac wv hfb haf hJ K' hK
      obtain ⟨vs, rfl, hM, j4⟩ := hJ
      replace hK := Lib.hid hK
      replace hM := Lib.hid hM
      rw [HG.out] at j4
      simp [Region.binds] at haf
      have e1 := ((j4 1 (by simp [haf]))).trans E1.out
      have e2 := ((j4 2 (by simp [haf]))).trans E2.out
      replace j4 := Lib.hid j4
      clear haf hfb
      rw [HLIT.out]
      go_simp
      go_at_call 20
      refine (rvalid_any _ AB _ (HM.out.step hM.out).1).mono ?_
      rintro e w4 ⟨rfl, b4⟩
      rw [SAB.out]
      exact hK.out _ _ (RS.next (wv := wv) (vs := vs) 3 (x := .bool true) (by rw [HLIT.out]; simp only [upv, e1, e2, Nat.reduceBEq, cond_true, cond_false]) (by rw [HG.out]; exact j4.out) (keep2 b4 hM.out) (by rw [HG.out]; exact fun _ _ h => h) (by rw [HG.out]; exact E3.out.symm))
    · intro bf ac wv hfb haf hJ K' hK
      obtain ⟨vs, rfl, hM, j4⟩ := hJ
      replace hK := Lib.hid hK
      replace hM := Lib.hid hM
      rw [HG.out] at j4
      simp [Region.binds] at haf
      have e1 := ((j4 1 (by simp [haf]))).trans E1.out
      have e3 := ((j4 3 (by simp [haf]))).trans E3.out
      replace j4 := Lib.hid j4
      clear haf hfb
      rw [HLIT.out]
      go_simp
      exact hK.out _ _ (RS.next (wv := wv) (vs := vs) 4 (x := .bool true) (by rw [HLIT.out]; simp only [upv, e1, e3, Nat.reduceBEq, cond_true, cond_false]) (by rw [HG.out]; exact j4.out) hM.out (by rw [HG.out]; exact fun _ _ h => h) (by rw [HG.out]; exact E4.out.symm))
    · intro bf ac wv hfb haf hJ K' hK
      obtain ⟨vs, rfl, hM, j4⟩ := hJ
      replace hK := Lib.hid hK
      replace hM := Lib.hid hM
      rw [HG.out] at j4
      simp [Region.binds] at haf
      have e4 := ((j4 4 (by simp [haf]))).trans E4.out
      replace j4 := Lib.hid j4
      clear haf hfb
      rw [HLIT.out]
      go_simp
      exact hK.out _ _ (RS.next (wv := wv) (vs := vs) 5 (x := .bool true) (by rw [HLIT.out]; simp only [upv, e4, Nat.reduceBEq, cond_true, cond_false]) (by rw [HG.out]; exact j4.out) hM.out (by rw [HG.out]; exact fun _ _ h => h) (by rw [HG.out]; exact E5.out.symm))
    · intro bf ac wv hfb haf hJ K' hK
      obtain ⟨vs, rfl, hM, j4⟩ := hJ
      replace hK := Lib.hid hK
      replace hM := Lib.hid hM
      rw [HG.out] at j4
      simp [Region.binds] at haf
      have e5 := ((j4 5 (by simp [haf]))).trans E5.out
      replace j4 := Lib.hid j4
      clear haf hfb
      have K1 := KM_103.out.step hM.out
      have x0 := K1.c 0 rfl
      have xz := K1.2.2
      clear K1
      rw [HLIT.out]
      go_simp
      exact hK.out _ _ (RS.next (wv := wv) (vs := vs) 6 (x := .agg #[.slice Ma AB.length Mc]) (by rw [HLIT.out]; simp only [upv, e5, Nat.reduceBEq, cond_true, cond_false]) (by rw [HG.out]; exact j4.out) hM.out (by rw [HG.out]; exact fun _ _ h => h) (by rw [HG.out]; exact E6.out.symm))
    · intro bf ac wv hfb haf hJ K' hK
      obtain ⟨vs, rfl, hM, j4⟩ := hJ
      replace hK := Lib.hid hK
      replace hM := Lib.hid hM
      rw [HG.out] at j4
      simp [Region.binds] at haf
      have e5 := ((j4 5 (by simp [haf]))).trans E5.out
      replace j4 := Lib.hid j4
      clear haf hfb
      have K1 := KN_104.out.step hM.out
      have x0 := K1.c 0 rfl
      have xz := K1.2.2
      clear K1
      rw [HLIT.out]
      go_simp
      exact hK.out _ _ (RS.next (wv := wv) (vs := vs) 7 (x := .agg #[.slice Na AB.length Nc]) (by rw [HLIT.out]; simp only [upv, e5, Nat.reduceBEq, cond_true, cond_false]) (by rw [HG.out]; exact j4.out) hM.out (by rw [HG.out]; exact fun _ _ h => h) (by rw [HG.out]; exact E7.out.symm))
    · intro bf ac wv hfb haf hJ K' hK
      obtain ⟨vs, rfl, hM, j4⟩ := hJ
      replace hK := Lib.hid hK
      replace hM := Lib.hid hM
      rw [HG.out] at j4
      simp [Region.binds] at haf
      have e5 := ((j4 5 (by simp [haf]))).trans E5.out
      have e6 := ((j4 6 (by simp [haf]))).trans E6.out
      have e7 := ((j4 7 (by simp [haf]))).trans E7.out
      replace j4 := Lib.hid j4
      clear haf hfb
      rw [HLIT.out]
      go_simp
      go_at_call 15
      refine (same_any _ _ AB AB _ (HM.out.step hM.out).1 (HN.out.step hM.out).1).mono ?_
      rintro e w4 ⟨rfl, b4⟩
      rw [decide_eq_true (rfl : AB = AB)]
      exact hK.out _ _ (RS.next (wv := wv) (vs := vs) 8 (x := .bool true) (by rw [HLIT.out]; simp only [upv, e5, e6, e7, Nat.reduceBEq, cond_true, cond_false]) (by rw [HG.out]; exact j4.out) (keep2 b4 hM.out) (by rw [HG.out]; exact fun _ _ h => h) (by rw [HG.out]; exact E8.out.symm))
    · intro bf ac wv hfb haf hJ K' hK
      obtain ⟨vs, rfl, hM, j4⟩ := hJ
      replace hK := Lib.hid hK
      replace hM := Lib.hid hM
      rw [HG.out] at j4
      simp [Region.binds] at haf
      have e5 := ((j4 5 (by simp [haf]))).trans E5.out
      have e8 := ((j4 8 (by simp [haf]))).trans E8.out
      replace j4 := Lib.hid j4
      clear haf hfb
      rw [HLIT.out]
      go_simp
      exact hK.out _ _ (RS.next (wv := wv) (vs := vs) 9 (x := .bool true) (by rw [HLIT.out]; simp only [upv, e5, e8, Nat.reduceBEq, cond_true, cond_false]) (by rw [HG.out]; exact j4.out) hM.out (by rw [HG.out]; exact fun _ _ h => h) (by rw [HG.out]; exact E9.out.symm))
    · intro bf ac wv hfb haf hJ K' hK
      obtain ⟨vs, rfl, hM, j4⟩ := hJ
      replace hK := Lib.hid hK
      replace hM := Lib.hid hM
      rw [HG.out] at j4
      simp [Region.binds] at haf
      have e9 := ((j4 9 (by simp [haf]))).trans E9.out
      replace j4 := Lib.hid j4
      clear haf hfb
      rw [HLIT.out]
      go_simp
      exact hK.out _ _ (RS.next (wv := wv) (vs := vs) 10 (x := .bool true) (by rw [HLIT.out]; simp only [upv, e9, Nat.reduceBEq, cond_true, cond_false]) (by rw [HG.out]; exact j4.out) hM.out (by rw [HG.out]; exact fun _ _ h => h) (by rw [HG.out]; exact E10.out.symm))
    · intro bf ac wv hfb haf hJ K' hK
      obtain ⟨vs, rfl, hM, j4⟩ := hJ
      replace hK := Lib.hid hK
      replace hM := Lib.hid hM
      rw [HG.out] at j4
      simp [Region.binds] at haf
      have e10 := ((j4 10 (by simp [haf]))).trans E10.out
      replace j4 := Lib.hid j4
      clear haf hfb
      have K1 := KP_106.out.step hM.out
      have x0 := K1.c 0 rfl
      have xz := K1.2.2
      clear K1
      rw [HLIT.out]
      go_simp
      exact hK.out _ _ (RS.next (wv := wv) (vs := vs) 11 (x := .agg #[.slice Pa LL.length Pc]) (by rw [HLIT.out]; simp only [upv, e10, Nat.reduceBEq, cond_true, cond_false]) (by rw [HG.out]; exact j4.out) hM.out (by rw [HG.out]; exact fun _ _ h => h) (by rw [HG.out]; exact E11.out.symm))
    · intro bf ac wv hfb haf hJ K' hK
      obtain ⟨vs, rfl, hM, j4⟩ := hJ
      replace hK := Lib.hid hK
      replace hM := Lib.hid hM
      rw [HG.out] at j4
      simp [Region.binds] at haf
      have e10 := ((j4 10 (by simp [haf]))).trans E10.out
      replace j4 := Lib.hid j4
      clear haf hfb
      have K1 := KQ_107.out.step hM.out
      have x0 := K1.c 0 rfl
      have xz := K1.2.2
      clear K1
      rw [HLIT.out]
      go_simp
      exact hK.out _ _ (RS.next (wv := wv) (vs := vs) 12 (x := .agg #[.slice Qa LL.length Qc]) (by rw [HLIT.out]; simp only [upv, e10, Nat.reduceBEq, cond_true, cond_false]) (by rw [HG.out]; exact j4.out) hM.out (by rw [HG.out]; exact fun _ _ h => h) (by rw [HG.out]; exact E12.out.symm))
    · intro bf ac wv hfb haf hJ K' hK
      obtain ⟨vs, rfl, hM, j4⟩ := hJ
      replace hK := Lib.hid hK
      replace hM := Lib.hid hM
      rw [HG.out] at j4
      simp [Region.binds] at haf
      have e10 := ((j4 10 (by simp [haf]))).trans E10.out
      have e11 := ((j4 11 (by simp [haf]))).trans E11.out
      have e12 := ((j4 12 (by simp [haf]))).trans E12.out
      replace j4 := Lib.hid j4
      clear haf hfb
      rw [HLIT.out]
      go_simp
      go_at_call 15
      refine (same_any _ _ LL LL _ (HP.out.step hM.out).1 (HQ.out.step hM.out).1).mono ?_
      rintro e w4 ⟨rfl, b4⟩
      rw [decide_eq_true (rfl : LL = LL)]
      exact hK.out _ _ (RS.next (wv := wv) (vs := vs) 13 (x := .bool true) (by rw [HLIT.out]; simp only [upv, e10, e11, e12, Nat.reduceBEq, cond_true, cond_false]) (by rw [HG.out]; exact j4.out) (keep2 b4 hM.out) (by rw [HG.out]; exact fun _ _ h => h) (by rw [HG.out]; exact E13.out.symm))
    · intro bf ac wv hfb haf hJ K' hK
      obtain ⟨vs, rfl, hM, j4⟩ := hJ
      replace hK := Lib.hid hK
      replace hM := Lib.hid hM
      rw [HG.out] at j4
      simp [Region.binds] at haf
      have e10 := ((j4 10 (by simp [haf]))).trans E10.out
      have e13 := ((j4 13 (by simp [haf]))).trans E13.out
      replace j4 := Lib.hid j4
      clear haf hfb
      rw [HLIT.out]
      go_simp
      exact hK.out _ _ (RS.next (wv := wv) (vs := vs) 14 (x := .bool true) (by rw [HLIT.out]; simp only [upv, e10, e13, Nat.reduceBEq, cond_true, cond_false]) (by rw [HG.out]; exact j4.out) hM.out (by rw [HG.out]; exact fun _ _ h => h) (by rw [HG.out]; exact E14.out.symm))
    · intro bf ac wv hfb haf hJ K' hK
      obtain ⟨vs, rfl, hM, j4⟩ := hJ
      replace hK := Lib.hid hK
      replace hM := Lib.hid hM
      rw [HG.out] at j4
      simp [Region.binds] at haf
      have e14 := ((j4 14 (by simp [haf]))).trans E14.out
      replace j4 := Lib.hid j4
      clear haf hfb
      rw [HLIT.out]
      go_simp
      exact hK.out _ _ (RS.next (wv := wv) (vs := vs) 15 (x := .bool true) (by rw [HLIT.out]; simp only [upv, e14, Nat.reduceBEq, cond_true, cond_false]) (by rw [HG.out]; exact j4.out) hM.out (by rw [HG.out]; exact fun _ _ h => h) (by rw [HG.out]; exact E15.out.symm))
    · intro bf ac wv hfb haf hJ K' hK
      obtain ⟨vs, rfl, hM, j4⟩ := hJ
      replace hK := Lib.hid hK
      replace hM := Lib.hid hM
      rw [HG.out] at j4
      simp [Region.binds] at haf
      have e15 := ((j4 15 (by simp [haf]))).trans E15.out
      replace j4 := Lib.hid j4
      clear haf hfb
      have K1 := KS_108.out.step hM.out
      have x0 := K1.c 0 rfl
      have xz := K1.2.2
      clear K1
      rw [HLIT.out]
      go_simp
      exact hK.out _ _ (RS.next (wv := wv) (vs := vs) 16 (x := .agg #[.slice Sa m.length Sc]) (by rw [HLIT.out]; simp only [upv, e15, Nat.reduceBEq, cond_true, cond_false]) (by rw [HG.out]; exact j4.out) hM.out (by rw [HG.out]; exact fun _ _ h => h) (by rw [HG.out]; exact E16.out.symm))
    · intro bf ac wv hfb haf hJ K' hK
      obtain ⟨vs, rfl, hM, j4⟩ := hJ
      replace hK := Lib.hid hK
      replace hM := Lib.hid hM
      rw [HG.out] at j4
      simp [Region.binds] at haf
      have e15 := ((j4 15 (by simp [haf]))).trans E15.out
      replace j4 := Lib.hid j4
      clear haf hfb
      have K1 := KA_100.out.step hM.out
      have x0 := K1.c 0 rfl
      have xz := K1.2.2
      clear K1
      rw [HLIT.out]
      go_simp
      exact hK.out _ _ (RS.next (wv := wv) (vs := vs) 17 (x := .agg #[.slice aa m.length ac]) (by rw [HLIT.out]; simp only [upv, e15, Nat.reduceBEq, cond_true, cond_false]) (by rw [HG.out]; exact j4.out) hM.out (by rw [HG.out]; exact fun _ _ h => h) (by rw [HG.out]; exact E17.out.symm))
    · intro bf ac wv hfb haf hJ K' hK
      obtain ⟨vs, rfl, hM, j4⟩ := hJ
      replace hK := Lib.hid hK
      replace hM := Lib.hid hM
      rw [HG.out] at j4
      simp [Region.binds] at haf
      have e15 := ((j4 15 (by simp [haf]))).trans E15.out
      have e16 := ((j4 16 (by simp [haf]))).trans E16.out
      have e17 := ((j4 17 (by simp [haf]))).trans E17.out
      replace j4 := Lib.hid j4
      clear haf hfb
      rw [HLIT.out]
      go_simp
      go_at_call 15
      refine (same_any _ _ m m _ (HS.out.step hM.out).1 ((HA.out.step HB109.out).step hM.out).1).mono ?_
      rintro e w4 ⟨rfl, b4⟩
      rw [decide_eq_true (rfl : m = m)]
      exact hK.out _ _ (RS.next (wv := wv) (vs := vs) 18 (x := .bool true) (by rw [HLIT.out]; simp only [upv, e15, e16, e17, Nat.reduceBEq, cond_true, cond_false]) (by rw [HG.out]; exact j4.out) (keep2 b4 hM.out) (by rw [HG.out]; exact fun _ _ h => h) (by rw [HG.out]; exact E18.out.symm))
    · intro bf ac wv hfb haf hJ K' hK
      obtain ⟨vs, rfl, hM, j4⟩ := hJ
      replace hK := Lib.hid hK
      replace hM := Lib.hid hM
      rw [HG.out] at j4
      simp [Region.binds] at haf
      have e15 := ((j4 15 (by simp [haf]))).trans E15.out
      have e18 := ((j4 18 (by simp [haf]))).trans E18.out
      replace j4 := Lib.hid j4
      clear haf hfb
      rw [HLIT.out]
      go_simp
      exact hK.out _ _ (RS.next (wv := wv) (vs := vs) 19 (x := .bool true) (by rw [HLIT.out]; simp only [upv, e15, e18, Nat.reduceBEq, cond_true, cond_false]) (by rw [HG.out]; exact j4.out) hM.out (by rw [HG.out]; exact fun _ _ h => h) (by rw [HG.out]; exact E19.out.symm))
    · intro bf ac wv hfb haf hJ K' hK
      obtain ⟨vs, rfl, hM, j4⟩ := hJ
      replace hK := Lib.hid hK
      replace hM := Lib.hid hM
      rw [HG.out] at j4
      simp [Region.binds] at haf
      have e19 := ((j4 19 (by simp [haf]))).trans E19.out
      replace j4 := Lib.hid j4
      clear haf hfb
      rw [HLIT.out]
      go_simp
      exact hK.out _ _ (RS.next (wv := wv) (vs := vs) 20 (x := .bool true) (by rw [HLIT.out]; simp only [upv, e19, Nat.reduceBEq, cond_true, cond_false]) (by rw [HG.out]; exact j4.out) hM.out (by rw [HG.out]; exact fun _ _ h => h) (by rw [HG.out]; exact E20.out.symm))
    · intro bf ac wv hfb haf hJ K' hK
      obtain ⟨vs, rfl, hM, j4⟩ := hJ
      replace hK := Lib.hid hK
      replace hM := Lib.hid hM
      rw [HG.out] at j4
      simp [Region.binds] at haf
      have e20 := ((j4 20 (by simp [haf]))).trans E20.out
      replace j4 := Lib.hid j4
      clear haf hfb
      have K1 := KM_103.out.step hM.out
      have x0 := K1.c 0 rfl
      have xz := K1.2.2
      clear K1
      rw [HLIT.out]
      go_simp
      exact hK.out _ _ (RS.next (wv := wv) (vs := vs) 21 (x := .agg #[.slice Ma AB.length Mc]) (by rw [HLIT.out]; simp only [upv, e20, Nat.reduceBEq, cond_true, cond_false]) (by rw [HG.out]; exact j4.out) hM.out (by rw [HG.out]; exact fun _ _ h => h) (by rw [HG.out]; exact E21.out.symm))
    · intro bf ac wv hfb haf hJ K' hK
      obtain ⟨vs, rfl, hM, j4⟩ := hJ
      replace hK := Lib.hid hK
      replace hM := Lib.hid hM
      rw [HG.out] at j4
      simp [Region.binds] at haf
      have e20 := ((j4 20 (by simp [haf]))).trans E20.out
      replace j4 := Lib.hid j4
      clear haf hfb
      rw [HLIT.out]
      go_simp
      exact hK.out _ _ (RS.next (wv := wv) (vs := vs) 22 (x := .int .i64 tg) (by rw [HLIT.out]; simp only [upv, e20, Nat.reduceBEq, cond_true, cond_false]) (by rw [HG.out]; exact j4.out) hM.out (by rw [HG.out]; exact fun _ _ h => h) (by rw [HG.out]; exact E22.out.symm))
    · intro bf ac wv hfb haf hJ K' hK
      obtain ⟨vs, rfl, hM, j4⟩ := hJ
      replace hK := Lib.hid hK
      replace hM := Lib.hid hM
      rw [HG.out] at j4
      simp [Region.binds] at haf
      have e20 := ((j4 20 (by simp [haf]))).trans E20.out
      have e21 := ((j4 21 (by simp [haf]))).trans E21.out
      have e22 := ((j4 22 (by simp [haf]))).trans E22.out
      replace j4 := Lib.hid j4
      clear haf hfb
      rw [HLIT.out]
      go_simp
      go_at_call 16
      refine (has2_any _ AB tg _ (HM.out.step hM.out).1 HTGB.out).mono ?_
      rintro e w4 ⟨rfl, b4⟩
      rw [HAB.out]
      exact hK.out _ _ (RS.next (wv := wv) (vs := vs) 23 (x := .bool bb) (by rw [HLIT.out]; simp only [upv, e20, e21, e22, Nat.reduceBEq, cond_true, cond_false]) (by rw [HG.out]; exact j4.out) (keep2 b4 hM.out) (by rw [HG.out]; exact fun _ _ h => h) (by rw [HG.out]; exact E23.out.symm))
    · intro bf ac wv hfb haf hJ K' hK
      obtain ⟨vs, rfl, hM, j4⟩ := hJ
      replace hK := Lib.hid hK
      replace hM := Lib.hid hM
      rw [HG.out] at j4
      simp [Region.binds] at haf
      have e20 := ((j4 20 (by simp [haf]))).trans E20.out
      replace j4 := Lib.hid j4
      clear haf hfb
      have K1 := KA_100.out.step hM.out
      have x0 := K1.c 0 rfl
      have xz := K1.2.2
      clear K1
      rw [HLIT.out]
      go_simp
      exact hK.out _ _ (RS.next (wv := wv) (vs := vs) 24 (x := .agg #[.slice aa m.length ac]) (by rw [HLIT.out]; simp only [upv, e20, Nat.reduceBEq, cond_true, cond_false]) (by rw [HG.out]; exact j4.out) hM.out (by rw [HG.out]; exact fun _ _ h => h) (by rw [HG.out]; exact E24.out.symm))
    · intro bf ac wv hfb haf hJ K' hK
      obtain ⟨vs, rfl, hM, j4⟩ := hJ
      replace hK := Lib.hid hK
      replace hM := Lib.hid hM
      rw [HG.out] at j4
      simp [Region.binds] at haf
      have e20 := ((j4 20 (by simp [haf]))).trans E20.out
      replace j4 := Lib.hid j4
      clear haf hfb
      rw [HLIT.out]
      go_simp
      exact hK.out _ _ (RS.next (wv := wv) (vs := vs) 25 (x := .int .i64 tg) (by rw [HLIT.out]; simp only [upv, e20, Nat.reduceBEq, cond_true, cond_false]) (by rw [HG.out]; exact j4.out) hM.out (by rw [HG.out]; exact fun _ _ h => h) (by rw [HG.out]; exact E25.out.symm))
    · intro bf ac wv hfb haf hJ K' hK
      obtain ⟨vs, rfl, hM, j4⟩ := hJ
      replace hK := Lib.hid hK
      replace hM := Lib.hid hM
      rw [HG.out] at j4
      simp [Region.binds] at haf
      have e20 := ((j4 20 (by simp [haf]))).trans E20.out
      have e24 := ((j4 24 (by simp [haf]))).trans E24.out
      have e25 := ((j4 25 (by simp [haf]))).trans E25.out
      replace j4 := Lib.hid j4
      clear haf hfb
      rw [HLIT.out]
      go_simp
      go_at_call 16
      refine (has2_any _ m tg _ ((HA.out.step HB109.out).step hM.out).1 HTGB.out).mono ?_
      rintro e w4 ⟨rfl, b4⟩
      rw [HPT.out]
      exact hK.out _ _ (RS.next (wv := wv) (vs := vs) 26 (x := .bool false) (by rw [HLIT.out]; simp only [upv, e20, e24, e25, Nat.reduceBEq, cond_true, cond_false]) (by rw [HG.out]; exact j4.out) (keep2 b4 hM.out) (by rw [HG.out]; exact fun _ _ h => h) (by rw [HG.out]; exact E26.out.symm))
    · intro bf ac wv hfb haf hJ K' hK
      obtain ⟨vs, rfl, hM, j4⟩ := hJ
      replace hK := Lib.hid hK
      replace hM := Lib.hid hM
      rw [HG.out] at j4
      simp [Region.binds] at haf
      have e20 := ((j4 20 (by simp [haf]))).trans E20.out
      have e26 := ((j4 26 (by simp [haf]))).trans E26.out
      replace j4 := Lib.hid j4
      clear haf hfb
      rw [HLIT.out]
      go_simp
      exact hK.out _ _ (RS.next (wv := wv) (vs := vs) 27 (x := .bool false) (by rw [HLIT.out]; simp only [upv, e20, e26, Nat.reduceBEq, cond_true, cond_false]) (by rw [HG.out]; exact j4.out) hM.out (by rw [HG.out]; exact fun _ _ h => h) (by rw [HG.out]; exact E27.out.symm))
    · intro bf ac wv hfb haf hJ K' hK
      obtain ⟨vs, rfl, hM, j4⟩ := hJ
      replace hK := Lib.hid hK
      replace hM := Lib.hid hM
      rw [HG.out] at j4
      simp [Region.binds] at haf
      have e27 := ((j4 27 (by simp [haf]))).trans E27.out
      replace j4 := Lib.hid j4
      clear haf hfb
      have K1 := KB_101.out.step hM.out
      have x0 := K1.c 0 rfl
      have xz := K1.2.2
      clear K1
      rw [HLIT.out]
      go_simp
      exact hK.out _ _ (RS.next (wv := wv) (vs := vs) 28 (x := .agg #[.slice ba n.length bc]) (by rw [HLIT.out]; simp only [upv, e27, Nat.reduceBEq, cond_true, cond_false]) (by rw [HG.out]; exact j4.out) hM.out (by rw [HG.out]; exact fun _ _ h => h) (by rw [HG.out]; exact E28.out.symm))
    · intro bf ac wv hfb haf hJ K' hK
      obtain ⟨vs, rfl, hM, j4⟩ := hJ
      replace hK := Lib.hid hK
      replace hM := Lib.hid hM
      rw [HG.out] at j4
      simp [Region.binds] at haf
      have e27 := ((j4 27 (by simp [haf]))).trans E27.out
      replace j4 := Lib.hid j4
      clear haf hfb
      rw [HLIT.out]
      go_simp
      exact hK.out _ _ (RS.next (wv := wv) (vs := vs) 29 (x := .int .i64 tg) (by rw [HLIT.out]; simp only [upv, e27, Nat.reduceBEq, cond_true, cond_false]) (by rw [HG.out]; exact j4.out) hM.out (by rw [HG.out]; exact fun _ _ h => h) (by rw [HG.out]; exact E29.out.symm))
    · intro bf ac wv hfb haf hJ K' hK
      obtain ⟨vs, rfl, hM, j4⟩ := hJ
      replace hK := Lib.hid hK
      replace hM := Lib.hid hM
      rw [HG.out] at j4
      simp [Region.binds] at haf
      have e27 := ((j4 27 (by simp [haf]))).trans E27.out
      have e28 := ((j4 28 (by simp [haf]))).trans E28.out
      have e29 := ((j4 29 (by simp [haf]))).trans E29.out
      replace j4 := Lib.hid j4
      clear haf hfb
      rw [HLIT.out]
      go_simp
      go_at_call 16
      refine (has2_any _ n tg _ ((HB.out.step HB109.out).step hM.out).1 HTGB.out).mono ?_
      rintro e w4 ⟨rfl, b4⟩
      rw [hbb.out]
      exact hK.out _ _ (RS.next (wv := wv) (vs := vs) 30 (x := .bool bb) (by rw [HLIT.out]; simp only [upv, e27, e28, e29, Nat.reduceBEq, cond_true, cond_false]) (by rw [HG.out]; exact j4.out) (keep2 b4 hM.out) (by rw [HG.out]; exact fun _ _ h => h) (by rw [HG.out]; exact E30.out.symm))
    · intro bf ac wv hfb haf hJ K' hK
      obtain ⟨vs, rfl, hM, j4⟩ := hJ
      replace hK := Lib.hid hK
      replace hM := Lib.hid hM
      rw [HG.out] at j4
      simp [Region.binds] at haf
      have e20 := ((j4 20 (by simp [haf]))).trans E20.out
      have e27 := ((j4 27 (by simp [haf]))).trans E27.out
      have e30 := ((j4 30 (by simp [haf]))).trans E30.out
      replace j4 := Lib.hid j4
      clear haf hfb
      rw [HLIT.out]
      go_simp
      exact hK.out _ _ (RS.next (wv := wv) (vs := vs) 31 (x := .bool bb) (by rw [HLIT.out]; simp only [upv, e20, e27, e30, Nat.reduceBEq, cond_true, cond_false]) (by rw [HG.out]; exact j4.out) hM.out (by rw [HG.out]; exact fun _ _ h => h) (by rw [HG.out]; exact E31.out.symm))
    · intro bf ac wv hfb haf hJ K' hK
      obtain ⟨vs, rfl, hM, j4⟩ := hJ
      replace hK := Lib.hid hK
      replace hM := Lib.hid hM
      rw [HG.out] at j4
      simp [Region.binds] at haf
      have e20 := ((j4 20 (by simp [haf]))).trans E20.out
      have e23 := ((j4 23 (by simp [haf]))).trans E23.out
      have e31 := ((j4 31 (by simp [haf]))).trans E31.out
      replace j4 := Lib.hid j4
      clear haf hfb
      rw [HLIT.out]
      go_simp
      exact hK.out _ _ (RS.next (wv := wv) (vs := vs) 32 (x := .bool true) (by rw [HLIT.out]; simp only [upv, e20, e23, e31, Nat.reduceBEq, cond_true, cond_false]) (by rw [HG.out]; exact j4.out) hM.out (by rw [HG.out]; exact fun _ _ h => h) (by rw [HG.out]; exact E32.out.symm))
    · intro bf ac wv hfb haf hJ K' hK
      obtain ⟨vs, rfl, hM, j4⟩ := hJ
      replace hK := Lib.hid hK
      replace hM := Lib.hid hM
      rw [HG.out] at j4
      simp [Region.binds] at haf
      have e20 := ((j4 20 (by simp [haf]))).trans E20.out
      have e32 := ((j4 32 (by simp [haf]))).trans E32.out
      replace j4 := Lib.hid j4
      clear haf hfb
      rw [HLIT.out]
      go_simp
      exact hK.out _ _ (RS.next (wv := wv) (vs := vs) 33 (x := .bool true) (by rw [HLIT.out]; simp only [upv, e20, e32, Nat.reduceBEq, cond_true, cond_false]) (by rw [HG.out]; exact j4.out) hM.out (by rw [HG.out]; exact fun _ _ h => h) (by rw [HG.out]; exact E33.out.symm))
    · intro bf ac wv hfb haf hJ K' hK
      obtain ⟨vs, rfl, hM, j4⟩ := hJ
      replace hK := Lib.hid hK
      replace hM := Lib.hid hM
      rw [HG.out] at j4
      simp [Region.binds] at haf
      have e33 := ((j4 33 (by simp [haf]))).trans E33.out
      replace j4 := Lib.hid j4
      clear haf hfb
      rw [HLIT.out]
      go_simp
      exact hK.out _ _ (RS.next (wv := wv) (vs := vs) 34 (x := .bool true) (by rw [HLIT.out]; simp only [upv, e33, Nat.reduceBEq, cond_true, cond_false]) (by rw [HG.out]; exact j4.out) hM.out (by rw [HG.out]; exact fun _ _ h => h) (by rw [HG.out]; exact E34.out.symm))
  · intro bf ac wv hall hJ
    obtain ⟨vs, rfl, hM, j4⟩ := hJ
    rw [HG.out] at j4
    have ez := ((j4 34 (hall 34 (by decide)))).trans E34.out
    have HB9 := Lib.hid (keep2 hM HB109.out)
    clear hall j4 hM
    rw [HLIT.out]
    dsimp only
    rw [ez]
    clear ez
    go_wp2
    go_ret
    exact ⟨rfl, HB9.out⟩
theorem merges_any (va : Value) (m : List Int) (vb : Value) (n : List Int) (vc : Value) (p : List Int) (tg : Int) (w : World) (ha : TgAt w va m) (hb : TgAt w vb n) (hc : TgAt w vc p) (hg : -9223372036854775808 ≤ tg ∧ tg ≤ 9223372036854775807) : Calls Try.prog 5 #[.agg #[va], .agg #[vb], .agg #[vc], .int .i64 tg] w fun e w' => e = .returned (.bool true) ∧ Below w.heap.size w w' := by
  by_cases h1 : m.length ≤ 50
  · by_cases h2 : n.length ≤ 50
    · by_cases h3 : p.length ≤ 50
      · cases s1 : stB m
        · exact merges_va va m vb n vc p tg w ha hb hc hg h1 h2 h3 s1
        · cases s2 : stB n
          · exact merges_vb va m vb n vc p tg w ha hb hc hg h1 h2 h3 s1 s2
          · cases s3 : stB p
            · exact merges_vc va m vb n vc p tg w ha hb hc hg h1 h2 h3 s1 s2 s3
            · cases hp : hsB m tg
              · exact merges_q va m vb n vc p tg w ha hb hc hg h1 h2 h3 s1 s2 s3 hp
              · exact merges_p va m vb n vc p tg w ha hb hc hg h1 h2 h3 s1 s2 s3 hp
      · exact merges_c va m vb n vc p tg w ha hb hc hg h1 h2 (by omega)
    · exact merges_b va m vb n vc p tg w ha hb hc hg h1 (by omega)
  · exact merges_a va m vb n vc p tg w ha hb hc hg (by omega)
end Go.Proofs.Ytpoldplmaomkaaa
