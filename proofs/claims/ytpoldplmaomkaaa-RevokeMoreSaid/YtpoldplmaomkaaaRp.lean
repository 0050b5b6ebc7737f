/- Sets of tags: law RevokeMore. -/
import Derived.Test.YtpoldplmaomkaaaRo
namespace Go.Proofs.Ytpoldplmaomkaaa
open Go.RowKit

theorem mg_small {a b : List Int} (ha : stB a = true) (hb : stB b = true) (h1 : a.length ≤ 50) (h2 : b.length ≤ 50) : mgE a b = 0 ∧ mgL a b = mg a b ∧ stB (mg a b) = true ∧ (mg a b).length ≤ 100 := by
  have hl := mg_len a b
  have h4 : (mg a b).length ≤ 400 := by omega
  have e : mgE a b = 0 := by unfold mgE; rw [ha, hb]; simp [h4]
  exact ⟨e, by unfold mgL; rw [e]; rfl, mg_st ha hb h4, by omega⟩
theorem ckV_ne (key id tag : Int) (l : List Cv) (r v x t u : Int) : ckV key id tag l r v x t u ≠ 21 := by
  have h1 : ∀ (k z : Int), ckE r v t u k z ≠ 21 := fun k z => by
    unfold ckE unl
    split
    · split <;> decide
    · split
      · split <;> decide
      · split
        · split <;> decide
        · split
          · split <;> decide
          · split <;> decide
  have h2 : ∀ l : List Cv, prL r v t u l ≠ 21 := fun l => by
    induction l with
    | nil => unfold prL; decide
    | cons c l ih =>
      unfold prL
      split
      · exact ih
      · exact h1 _ _
  unfold ckV
  split
  · split
    · unfold pmE
      split
      · exact h2 _
      · decide
    · decide
  · decide
theorem ckR_nil (key id tag : Int) (l : List Cv) (r v x t u : Int) : ckR key [] id tag l r v x t u = ckV key id tag l r v x t u := by
  have h : (chB key id tag l).any (inB []) = false := by
    rw [List.any_eq_false]; intro y _; unfold inB; simp
  unfold ckR
  rw [show stB [] = true by decide, if_pos rfl, h]
  split
  · rename_i h1; exact h1.symm
  · rfl
theorem any_mg (c a b : List Int) : c.any (inB (mg a b)) = (c.any (inB a) || c.any (inB b)) := by
  rw [Bool.eq_iff_iff, Bool.or_eq_true, List.any_eq_true, List.any_eq_true, List.any_eq_true]
  constructor
  · rintro ⟨y, hy, h⟩
    rw [inB_iff, mem_mg] at h
    rcases h with h | h
    · exact .inl ⟨y, hy, inB_iff.2 h⟩
    · exact .inr ⟨y, hy, inB_iff.2 h⟩
  · rintro (⟨y, hy, h⟩ | ⟨y, hy, h⟩)
    · exact ⟨y, hy, inB_iff.2 ((mem_mg _ _ _).2 (.inl (inB_iff.1 h)))⟩
    · exact ⟨y, hy, inB_iff.2 ((mem_mg _ _ _).2 (.inr (inB_iff.1 h)))⟩
theorem more_cases {key id tag : Int} {l : List Cv} {r v x t u : Int} {a b : List Int} {W V1 V2 VA : Int} (ha : stB a = true) (hb : stB b = true) (hm : stB (mg a b) = true) (hW : ckV key id tag l r v x t u = W) (h1 : ckR key a id tag l r v x t u = V1) (h2 : ckR key b id tag l r v x t u = V2) (hA : ckR key (mg a b) id tag l r v x t u = VA) :
    (W = 1 ∧ V1 = 1 ∧ V2 = 1 ∧ VA = 1) ∨ ((W ≠ 21 ∧ W ≠ 1) ∧ ((V1 = 21 ∧ V2 = 21 ∧ VA = 21) ∨ (V1 = 21 ∧ W = V2 ∧ VA = 21) ∨ (W = V1 ∧ V2 = 21 ∧ VA = 21) ∨ (W = V1 ∧ W = V2 ∧ W = VA))) := by
  unfold ckR at h1 h2 hA
  rw [if_pos ha, hW] at h1
  rw [if_pos hb, hW] at h2
  rw [if_pos hm, hW, any_mg] at hA
  have hn := ckV_ne key id tag l r v x t u
  rw [hW] at hn
  by_cases h : W = 1
  · rw [if_pos h] at h1 h2 hA
    exact .inl ⟨h, h1.symm, h2.symm, hA.symm⟩
  · rw [if_neg h] at h1 h2 hA
    refine .inr ⟨⟨hn, h⟩, ?_⟩
    cases p : (chB key id tag l).any (inB a) <;> cases q : (chB key id tag l).any (inB b) <;> rw [p, q] at hA <;> rw [p] at h1 <;> rw [q] at h2
    · exact .inr (.inr (.inr ⟨h1, h2, hA⟩))
    · exact .inr (.inr (.inl ⟨h1, h2.symm, hA.symm⟩))
    · exact .inr (.inl ⟨h1.symm, h2, hA.symm⟩)
    · exact .inl ⟨h1.symm, h2.symm, hA.symm⟩
set_option maxRecDepth 100000 in
set_option maxHeartbeats 4000000 in
theorem more_a (va : Value) (m : List Int) (vb : Value) (n : List Int) (key id tag : Int) (sl : Value) (l : List Cv) (r v x t u : Int) (w : World) (ha : TgAt w va m) (hb : TgAt w vb n) (h : CvsAt w sl l) (h1 : 50 < m.length) : Calls Try.prog 8 #[.agg #[va], .agg #[vb], .int .i64 key, .agg #[.int .i64 id, sl, .int .i64 tag], .agg #[.int .i64 r, .int .i64 v, .int .i64 x, .int .i64 t], .int .i64 u] w fun e w' => e = .returned (.bool true) ∧ Below w.heap.size w w' := by
  have H := Lib.hid h
  have HA := Lib.hid ha
  have HB := Lib.hid hb
  obtain ⟨a, cap, rfl, -, hm, -⟩ := h
  obtain ⟨⟨aa, ac, rfl, ham, -⟩, -⟩ := ha
  obtain ⟨⟨ba, bc, rfl, hbm, -⟩, -⟩ := hb
  unfold maxLen at hm ham hbm
  have g1 : decide (((m).length : Int) > 50) = true := by simp; omega
  have g1' : decide ((50 : Int) < ((m).length : Int)) = true := by simp; omega
  have HB0 := Lib.hid (Below.refl w.heap.size w)
  go_enter Try.func8, Try.ntmps8
  have KA_1 := Lib.hid (Cs.new w (w.heap.size) #[.slice aa m.length ac] 24 (by simp))
  have HB2 : Hid (Below w.heap.size w (w.alloc (.cells #[.slice aa m.length ac] 24))) := HB0.out.alloc HB0.out.size _
  clear HB0
  have KA_3 := Lib.hid (KA_1.out.alloc (.cells #[.slice ba n.length bc] 24))
  clear KA_1
  have KB_4 := Lib.hid (Cs.new (w.alloc (.cells #[.slice aa m.length ac] 24)) (w.heap.size + 1) #[.slice ba n.length bc] 24 (by simp))
  have HB5 : Hid (Below w.heap.size w ((w.alloc (.cells #[.slice aa m.length ac] 24)).alloc (.cells #[.slice ba n.length bc] 24))) := HB2.out.alloc HB2.out.size _
  clear HB2
  have KA_6 := Lib.hid (KA_3.out.alloc (.cells #[.int .i64 id, .slice a l.length cap, .int .i64 tag] 27))
  clear KA_3
  have KB_7 := Lib.hid (KB_4.out.alloc (.cells #[.int .i64 id, .slice a l.length cap, .int .i64 tag] 27))
  clear KB_4
  have KC_8 := Lib.hid (Cs.new ((w.alloc (.cells #[.slice aa m.length ac] 24)).alloc (.cells #[.slice ba n.length bc] 24)) (w.heap.size + 1 + 1) #[.int .i64 id, .slice a l.length cap, .int .i64 tag] 27 (by simp))
  have HB9 : Hid (Below w.heap.size w (((w.alloc (.cells #[.slice aa m.length ac] 24)).alloc (.cells #[.slice ba n.length bc] 24)).alloc (.cells #[.int .i64 id, .slice a l.length cap, .int .i64 tag] 27))) := HB5.out.alloc HB5.out.size _
  clear HB5
  have KA_10 := Lib.hid (KA_6.out.alloc (.cells #[.int .i64 r, .int .i64 v, .int .i64 x, .int .i64 t] 29))
  clear KA_6
  have KB_11 := Lib.hid (KB_7.out.alloc (.cells #[.int .i64 r, .int .i64 v, .int .i64 x, .int .i64 t] 29))
  clear KB_7
  have KC_12 := Lib.hid (KC_8.out.alloc (.cells #[.int .i64 r, .int .i64 v, .int .i64 x, .int .i64 t] 29))
  clear KC_8
  have KK_13 := Lib.hid (Cs.new (((w.alloc (.cells #[.slice aa m.length ac] 24)).alloc (.cells #[.slice ba n.length bc] 24)).alloc (.cells #[.int .i64 id, .slice a l.length cap, .int .i64 tag] 27)) (w.heap.size + 1 + 1 + 1) #[.int .i64 r, .int .i64 v, .int .i64 x, .int .i64 t] 29 (by simp))
  have HB14 : Hid (Below w.heap.size w ((((w.alloc (.cells #[.slice aa m.length ac] 24)).alloc (.cells #[.slice ba n.length bc] 24)).alloc (.cells #[.int .i64 id, .slice a l.length cap, .int .i64 tag] 27)).alloc (.cells #[.int .i64 r, .int .i64 v, .int .i64 x, .int .i64 t] 29))) := HB9.out.alloc HB9.out.size _
  clear HB9
  go_wp2_with fail
  refine (head_any _).mono ?_
  rintro e u1 ⟨rfl, b1⟩
  have KA_15 := Lib.hid (KA_10.out.step b1)
  clear KA_10
  have KB_16 := Lib.hid (KB_11.out.step b1)
  clear KB_11
  have KC_17 := Lib.hid (KC_12.out.step b1)
  clear KC_12
  have KK_18 := Lib.hid (KK_13.out.step b1)
  clear KK_13
  have HB19 := Lib.hid (keep2 b1 HB14.out)
  clear HB14 b1
  have xA0 : u1.cell? ⟨w.heap.size, 0, none⟩ = some (.slice aa m.length ac) := KA_15.out.c 0 rfl
  have zA : w.heap.size < u1.heap.size := KA_15.out.2.2
  have z2A : w.heap.size < u1.heap.size + 1 := by omega
  have xB0 : u1.cell? ⟨w.heap.size + 1, 0, none⟩ = some (.slice ba n.length bc) := KB_16.out.c 0 rfl
  have zB : w.heap.size + 1 < u1.heap.size := KB_16.out.2.2
  have z2B : w.heap.size + 1 < u1.heap.size + 1 := by omega
  have xC0 : u1.cell? ⟨w.heap.size + 1 + 1, 0, none⟩ = some (.int .i64 id) := KC_17.out.c 0 rfl
  have xC1 : u1.cell? ⟨w.heap.size + 1 + 1, 1, none⟩ = some (.slice a l.length cap) := KC_17.out.c 1 rfl
  have xC2 : u1.cell? ⟨w.heap.size + 1 + 1, 2, none⟩ = some (.int .i64 tag) := KC_17.out.c 2 rfl
  have zC : w.heap.size + 1 + 1 < u1.heap.size := KC_17.out.2.2
  have z2C : w.heap.size + 1 + 1 < u1.heap.size + 1 := by omega
  go_wp2
  go_ret
  exact ⟨rfl, HB19.out⟩
set_option maxRecDepth 100000 in
set_option maxHeartbeats 4000000 in
theorem more_b (va : Value) (m : List Int) (vb : Value) (n : List Int) (key id tag : Int) (sl : Value) (l : List Cv) (r v x t u : Int) (w : World) (ha : TgAt w va m) (hb : TgAt w vb n) (h : CvsAt w sl l) (h1 : m.length ≤ 50) (h2 : 50 < n.length) : Calls Try.prog 8 #[.agg #[va], .agg #[vb], .int .i64 key, .agg #[.int .i64 id, sl, .int .i64 tag], .agg #[.int .i64 r, .int .i64 v, .int .i64 x, .int .i64 t], .int .i64 u] w fun e w' => e = .returned (.bool true) ∧ Below w.heap.size w w' := by
  have H := Lib.hid h
  have HA := Lib.hid ha
  have HB := Lib.hid hb
  obtain ⟨a, cap, rfl, -, hm, -⟩ := h
  obtain ⟨⟨aa, ac, rfl, ham, -⟩, -⟩ := ha
  obtain ⟨⟨ba, bc, rfl, hbm, -⟩, -⟩ := hb
  unfold maxLen at hm ham hbm
  have g1 : decide (((m).length : Int) > 50) = false := by simp; omega
  have g1' : decide ((50 : Int) < ((m).length : Int)) = false := by simp; omega
  have g2 : decide (((n).length : Int) > 50) = true := by simp; omega
  have g2' : decide ((50 : Int) < ((n).length : Int)) = true := by simp; omega
  have HB0 := Lib.hid (Below.refl w.heap.size w)
  go_enter Try.func8, Try.ntmps8
  have KA_1 := Lib.hid (Cs.new w (w.heap.size) #[.slice aa m.length ac] 24 (by simp))
  have HB2 : Hid (Below w.heap.size w (w.alloc (.cells #[.slice aa m.length ac] 24))) := HB0.out.alloc HB0.out.size _
  clear HB0
  have KA_3 := Lib.hid (KA_1.out.alloc (.cells #[.slice ba n.length bc] 24))
  clear KA_1
  have KB_4 := Lib.hid (Cs.new (w.alloc (.cells #[.slice aa m.length ac] 24)) (w.heap.size + 1) #[.slice ba n.length bc] 24 (by simp))
  have HB5 : Hid (Below w.heap.size w ((w.alloc (.cells #[.slice aa m.length ac] 24)).alloc (.cells #[.slice ba n.length bc] 24))) := HB2.out.alloc HB2.out.size _
  clear HB2
  have KA_6 := Lib.hid (KA_3.out.alloc (.cells #[.int .i64 id, .slice a l.length cap, .int .i64 tag] 27))
  clear KA_3
  have KB_7 := Lib.hid (KB_4.out.alloc (.cells #[.int .i64 id, .slice a l.length cap, .int .i64 tag] 27))
  clear KB_4
  have KC_8 := Lib.hid (Cs.new ((w.alloc (.cells #[.slice aa m.length ac] 24)).alloc (.cells #[.slice ba n.length bc] 24)) (w.heap.size + 1 + 1) #[.int .i64 id, .slice a l.length cap, .int .i64 tag] 27 (by simp))
  have HB9 : Hid (Below w.heap.size w (((w.alloc (.cells #[.slice aa m.length ac] 24)).alloc (.cells #[.slice ba n.length bc] 24)).alloc (.cells #[.int .i64 id, .slice a l.length cap, .int .i64 tag] 27))) := HB5.out.alloc HB5.out.size _
  clear HB5
  have KA_10 := Lib.hid (KA_6.out.alloc (.cells #[.int .i64 r, .int .i64 v, .int .i64 x, .int .i64 t] 29))
  clear KA_6
  have KB_11 := Lib.hid (KB_7.out.alloc (.cells #[.int .i64 r, .int .i64 v, .int .i64 x, .int .i64 t] 29))
  clear KB_7
  have KC_12 := Lib.hid (KC_8.out.alloc (.cells #[.int .i64 r, .int .i64 v, .int .i64 x, .int .i64 t] 29))
  clear KC_8
  have KK_13 := Lib.hid (Cs.new (((w.alloc (.cells #[.slice aa m.length ac] 24)).alloc (.cells #[.slice ba n.length bc] 24)).alloc (.cells #[.int .i64 id, .slice a l.length cap, .int .i64 tag] 27)) (w.heap.size + 1 + 1 + 1) #[.int .i64 r, .int .i64 v, .int .i64 x, .int .i64 t] 29 (by simp))
  have HB14 : Hid (Below w.heap.size w ((((w.alloc (.cells #[.slice aa m.length ac] 24)).alloc (.cells #[.slice ba n.length bc] 24)).alloc (.cells #[.int .i64 id, .slice a l.length cap, .int .i64 tag] 27)).alloc (.cells #[.int .i64 r, .int .i64 v, .int .i64 x, .int .i64 t] 29))) := HB9.out.alloc HB9.out.size _
  clear HB9
  go_wp2_with fail
  refine (head_any _).mono ?_
  rintro e u1 ⟨rfl, b1⟩
  have KA_15 := Lib.hid (KA_10.out.step b1)
  clear KA_10
  have KB_16 := Lib.hid (KB_11.out.step b1)
  clear KB_11
  have KC_17 := Lib.hid (KC_12.out.step b1)
  clear KC_12
  have KK_18 := Lib.hid (KK_13.out.step b1)
  clear KK_13
  have HB19 := Lib.hid (keep2 b1 HB14.out)
  clear HB14 b1
  have xA0 : u1.cell? ⟨w.heap.size, 0, none⟩ = some (.slice aa m.length ac) := KA_15.out.c 0 rfl
  have zA : w.heap.size < u1.heap.size := KA_15.out.2.2
  have z2A : w.heap.size < u1.heap.size + 1 := by omega
  have xB0 : u1.cell? ⟨w.heap.size + 1, 0, none⟩ = some (.slice ba n.length bc) := KB_16.out.c 0 rfl
  have zB : w.heap.size + 1 < u1.heap.size := KB_16.out.2.2
  have z2B : w.heap.size + 1 < u1.heap.size + 1 := by omega
  have xC0 : u1.cell? ⟨w.heap.size + 1 + 1, 0, none⟩ = some (.int .i64 id) := KC_17.out.c 0 rfl
  have xC1 : u1.cell? ⟨w.heap.size + 1 + 1, 1, none⟩ = some (.slice a l.length cap) := KC_17.out.c 1 rfl
  have xC2 : u1.cell? ⟨w.heap.size + 1 + 1, 2, none⟩ = some (.int .i64 tag) := KC_17.out.c 2 rfl
  have zC : w.heap.size + 1 + 1 < u1.heap.size := KC_17.out.2.2
  have z2C : w.heap.size + 1 + 1 < u1.heap.size + 1 := by omega
  go_wp2
  go_ret
  exact ⟨rfl, HB19.out⟩
set_option maxRecDepth 100000 in
set_option maxHeartbeats 4000000 in
theorem more_c (va : Value) (m : List Int) (vb : Value) (n : List Int) (key id tag : Int) (sl : Value) (l : List Cv) (r v x t u : Int) (w : World) (ha : TgAt w va m) (hb : TgAt w vb n) (h : CvsAt w sl l) (h1 : m.length ≤ 50) (h2 : n.length ≤ 50) (h3 : 20 < l.length) : Calls Try.prog 8 #[.agg #[va], .agg #[vb], .int .i64 key, .agg #[.int .i64 id, sl, .int .i64 tag], .agg #[.int .i64 r, .int .i64 v, .int .i64 x, .int .i64 t], .int .i64 u] w fun e w' => e = .returned (.bool true) ∧ Below w.heap.size w w' := by
  have H := Lib.hid h
  have HA := Lib.hid ha
  have HB := Lib.hid hb
  obtain ⟨a, cap, rfl, -, hm, -⟩ := h
  obtain ⟨⟨aa, ac, rfl, ham, -⟩, -⟩ := ha
  obtain ⟨⟨ba, bc, rfl, hbm, -⟩, -⟩ := hb
  unfold maxLen at hm ham hbm
  have g1 : decide (((m).length : Int) > 50) = false := by simp; omega
  have g1' : decide ((50 : Int) < ((m).length : Int)) = false := by simp; omega
  have g2 : decide (((n).length : Int) > 50) = false := by simp; omega
  have g2' : decide ((50 : Int) < ((n).length : Int)) = false := by simp; omega
  have g3 : decide (((l).length : Int) > 20) = true := by simp; omega
  have g3' : decide ((20 : Int) < ((l).length : Int)) = true := by simp; omega
  have HB0 := Lib.hid (Below.refl w.heap.size w)
  go_enter Try.func8, Try.ntmps8
  have KA_1 := Lib.hid (Cs.new w (w.heap.size) #[.slice aa m.length ac] 24 (by simp))
  have HB2 : Hid (Below w.heap.size w (w.alloc (.cells #[.slice aa m.length ac] 24))) := HB0.out.alloc HB0.out.size _
  clear HB0
  have KA_3 := Lib.hid (KA_1.out.alloc (.cells #[.slice ba n.length bc] 24))
  clear KA_1
  have KB_4 := Lib.hid (Cs.new (w.alloc (.cells #[.slice aa m.length ac] 24)) (w.heap.size + 1) #[.slice ba n.length bc] 24 (by simp))
  have HB5 : Hid (Below w.heap.size w ((w.alloc (.cells #[.slice aa m.length ac] 24)).alloc (.cells #[.slice ba n.length bc] 24))) := HB2.out.alloc HB2.out.size _
  clear HB2
  have KA_6 := Lib.hid (KA_3.out.alloc (.cells #[.int .i64 id, .slice a l.length cap, .int .i64 tag] 27))
  clear KA_3
  have KB_7 := Lib.hid (KB_4.out.alloc (.cells #[.int .i64 id, .slice a l.length cap, .int .i64 tag] 27))
  clear KB_4
  have KC_8 := Lib.hid (Cs.new ((w.alloc (.cells #[.slice aa m.length ac] 24)).alloc (.cells #[.slice ba n.length bc] 24)) (w.heap.size + 1 + 1) #[.int .i64 id, .slice a l.length cap, .int .i64 tag] 27 (by simp))
  have HB9 : Hid (Below w.heap.size w (((w.alloc (.cells #[.slice aa m.length ac] 24)).alloc (.cells #[.slice ba n.length bc] 24)).alloc (.cells #[.int .i64 id, .slice a l.length cap, .int .i64 tag] 27))) := HB5.out.alloc HB5.out.size _
  clear HB5
  have KA_10 := Lib.hid (KA_6.out.alloc (.cells #[.int .i64 r, .int .i64 v, .int .i64 x, .int .i64 t] 29))
  clear KA_6
  have KB_11 := Lib.hid (KB_7.out.alloc (.cells #[.int .i64 r, .int .i64 v, .int .i64 x, .int .i64 t] 29))
  clear KB_7
  have KC_12 := Lib.hid (KC_8.out.alloc (.cells #[.int .i64 r, .int .i64 v, .int .i64 x, .int .i64 t] 29))
  clear KC_8
  have KK_13 := Lib.hid (Cs.new (((w.alloc (.cells #[.slice aa m.length ac] 24)).alloc (.cells #[.slice ba n.length bc] 24)).alloc (.cells #[.int .i64 id, .slice a l.length cap, .int .i64 tag] 27)) (w.heap.size + 1 + 1 + 1) #[.int .i64 r, .int .i64 v, .int .i64 x, .int .i64 t] 29 (by simp))
  have HB14 : Hid (Below w.heap.size w ((((w.alloc (.cells #[.slice aa m.length ac] 24)).alloc (.cells #[.slice ba n.length bc] 24)).alloc (.cells #[.int .i64 id, .slice a l.length cap, .int .i64 tag] 27)).alloc (.cells #[.int .i64 r, .int .i64 v, .int .i64 x, .int .i64 t] 29))) := HB9.out.alloc HB9.out.size _
  clear HB9
  go_wp2_with fail
  refine (head_any _).mono ?_
  rintro e u1 ⟨rfl, b1⟩
  have KA_15 := Lib.hid (KA_10.out.step b1)
  clear KA_10
  have KB_16 := Lib.hid (KB_11.out.step b1)
  clear KB_11
  have KC_17 := Lib.hid (KC_12.out.step b1)
  clear KC_12
  have KK_18 := Lib.hid (KK_13.out.step b1)
  clear KK_13
  have HB19 := Lib.hid (keep2 b1 HB14.out)
  clear HB14 b1
  have xA0 : u1.cell? ⟨w.heap.size, 0, none⟩ = some (.slice aa m.length ac) := KA_15.out.c 0 rfl
  have zA : w.heap.size < u1.heap.size := KA_15.out.2.2
  have z2A : w.heap.size < u1.heap.size + 1 := by omega
  have xB0 : u1.cell? ⟨w.heap.size + 1, 0, none⟩ = some (.slice ba n.length bc) := KB_16.out.c 0 rfl
  have zB : w.heap.size + 1 < u1.heap.size := KB_16.out.2.2
  have z2B : w.heap.size + 1 < u1.heap.size + 1 := by omega
  have xC0 : u1.cell? ⟨w.heap.size + 1 + 1, 0, none⟩ = some (.int .i64 id) := KC_17.out.c 0 rfl
  have xC1 : u1.cell? ⟨w.heap.size + 1 + 1, 1, none⟩ = some (.slice a l.length cap) := KC_17.out.c 1 rfl
  have xC2 : u1.cell? ⟨w.heap.size + 1 + 1, 2, none⟩ = some (.int .i64 tag) := KC_17.out.c 2 rfl
  have zC : w.heap.size + 1 + 1 < u1.heap.size := KC_17.out.2.2
  have z2C : w.heap.size + 1 + 1 < u1.heap.size + 1 := by omega
  go_wp2
  go_ret
  exact ⟨rfl, HB19.out⟩
set_option maxRecDepth 100000 in
set_option maxHeartbeats 4000000 in
theorem more_va (va : Value) (m : List Int) (vb : Value) (n : List Int) (key id tag : Int) (sl : Value) (l : List Cv) (r v x t u : Int) (w : World) (ha : TgAt w va m) (hb : TgAt w vb n) (h : CvsAt w sl l) (h1 : m.length ≤ 50) (h2 : n.length ≤ 50) (h3 : l.length ≤ 20) (h4 : stB m = false) : Calls Try.prog 8 #[.agg #[va], .agg #[vb], .int .i64 key, .agg #[.int .i64 id, sl, .int .i64 tag], .agg #[.int .i64 r, .int .i64 v, .int .i64 x, .int .i64 t], .int .i64 u] w fun e w' => e = .returned (.bool true) ∧ Below w.heap.size w w' := by
  have H := Lib.hid h
  have HA := Lib.hid ha
  have HB := Lib.hid hb
  obtain ⟨a, cap, rfl, -, hm, -⟩ := h
  obtain ⟨⟨aa, ac, rfl, ham, -⟩, -⟩ := ha
  obtain ⟨⟨ba, bc, rfl, hbm, -⟩, -⟩ := hb
  unfold maxLen at hm ham hbm
  have S1 := Lib.hid h4
  clear h4
  have g1 : decide (((m).length : Int) > 50) = false := by simp; omega
  have g1' : decide ((50 : Int) < ((m).length : Int)) = false := by simp; omega
  have g2 : decide (((n).length : Int) > 50) = false := by simp; omega
  have g2' : decide ((50 : Int) < ((n).length : Int)) = false := by simp; omega
  have g3 : decide (((l).length : Int) > 20) = false := by simp; omega
  have g3' : decide ((20 : Int) < ((l).length : Int)) = false := by simp; omega
  have HB0 := Lib.hid (Below.refl w.heap.size w)
  go_enter Try.func8, Try.ntmps8
  have KA_1 := Lib.hid (Cs.new w (w.heap.size) #[.slice aa m.length ac] 24 (by simp))
  have HB2 : Hid (Below w.heap.size w (w.alloc (.cells #[.slice aa m.length ac] 24))) := HB0.out.alloc HB0.out.size _
  clear HB0
  have KA_3 := Lib.hid (KA_1.out.alloc (.cells #[.slice ba n.length bc] 24))
  clear KA_1
  have KB_4 := Lib.hid (Cs.new (w.alloc (.cells #[.slice aa m.length ac] 24)) (w.heap.size + 1) #[.slice ba n.length bc] 24 (by simp))
  have HB5 : Hid (Below w.heap.size w ((w.alloc (.cells #[.slice aa m.length ac] 24)).alloc (.cells #[.slice ba n.length bc] 24))) := HB2.out.alloc HB2.out.size _
  clear HB2
  have KA_6 := Lib.hid (KA_3.out.alloc (.cells #[.int .i64 id, .slice a l.length cap, .int .i64 tag] 27))
  clear KA_3
  have KB_7 := Lib.hid (KB_4.out.alloc (.cells #[.int .i64 id, .slice a l.length cap, .int .i64 tag] 27))
  clear KB_4
  have KC_8 := Lib.hid (Cs.new ((w.alloc (.cells #[.slice aa m.length ac] 24)).alloc (.cells #[.slice ba n.length bc] 24)) (w.heap.size + 1 + 1) #[.int .i64 id, .slice a l.length cap, .int .i64 tag] 27 (by simp))
  have HB9 : Hid (Below w.heap.size w (((w.alloc (.cells #[.slice aa m.length ac] 24)).alloc (.cells #[.slice ba n.length bc] 24)).alloc (.cells #[.int .i64 id, .slice a l.length cap, .int .i64 tag] 27))) := HB5.out.alloc HB5.out.size _
  clear HB5
  have KA_10 := Lib.hid (KA_6.out.alloc (.cells #[.int .i64 r, .int .i64 v, .int .i64 x, .int .i64 t] 29))
  clear KA_6
  have KB_11 := Lib.hid (KB_7.out.alloc (.cells #[.int .i64 r, .int .i64 v, .int .i64 x, .int .i64 t] 29))
  clear KB_7
  have KC_12 := Lib.hid (KC_8.out.alloc (.cells #[.int .i64 r, .int .i64 v, .int .i64 x, .int .i64 t] 29))
  clear KC_8
  have KK_13 := Lib.hid (Cs.new (((w.alloc (.cells #[.slice aa m.length ac] 24)).alloc (.cells #[.slice ba n.length bc] 24)).alloc (.cells #[.int .i64 id, .slice a l.length cap, .int .i64 tag] 27)) (w.heap.size + 1 + 1 + 1) #[.int .i64 r, .int .i64 v, .int .i64 x, .int .i64 t] 29 (by simp))
  have HB14 : Hid (Below w.heap.size w ((((w.alloc (.cells #[.slice aa m.length ac] 24)).alloc (.cells #[.slice ba n.length bc] 24)).alloc (.cells #[.int .i64 id, .slice a l.length cap, .int .i64 tag] 27)).alloc (.cells #[.int .i64 r, .int .i64 v, .int .i64 x, .int .i64 t] 29))) := HB9.out.alloc HB9.out.size _
  clear HB9
  go_wp2_with fail
  refine (head_any _).mono ?_
  rintro e u1 ⟨rfl, b1⟩
  have KA_15 := Lib.hid (KA_10.out.step b1)
  clear KA_10
  have KB_16 := Lib.hid (KB_11.out.step b1)
  clear KB_11
  have KC_17 := Lib.hid (KC_12.out.step b1)
  clear KC_12
  have KK_18 := Lib.hid (KK_13.out.step b1)
  clear KK_13
  have HB19 := Lib.hid (keep2 b1 HB14.out)
  clear HB14 b1
  have xA0 : u1.cell? ⟨w.heap.size, 0, none⟩ = some (.slice aa m.length ac) := KA_15.out.c 0 rfl
  have zA : w.heap.size < u1.heap.size := KA_15.out.2.2
  have z2A : w.heap.size < u1.heap.size + 1 := by omega
  have xB0 : u1.cell? ⟨w.heap.size + 1, 0, none⟩ = some (.slice ba n.length bc) := KB_16.out.c 0 rfl
  have zB : w.heap.size + 1 < u1.heap.size := KB_16.out.2.2
  have z2B : w.heap.size + 1 < u1.heap.size + 1 := by omega
  have xC0 : u1.cell? ⟨w.heap.size + 1 + 1, 0, none⟩ = some (.int .i64 id) := KC_17.out.c 0 rfl
  have xC1 : u1.cell? ⟨w.heap.size + 1 + 1, 1, none⟩ = some (.slice a l.length cap) := KC_17.out.c 1 rfl
  have xC2 : u1.cell? ⟨w.heap.size + 1 + 1, 2, none⟩ = some (.int .i64 tag) := KC_17.out.c 2 rfl
  have zC : w.heap.size + 1 + 1 < u1.heap.size := KC_17.out.2.2
  have z2C : w.heap.size + 1 + 1 < u1.heap.size + 1 := by omega
  go_wp2_with fail
  refine (rvalid_any _ m _ (HA.out.step HB19.out).1).mono ?_
  rintro e u2 ⟨rfl, b2⟩
  clear xA0 zA z2A xB0 zB z2B xC0 xC1 xC2 zC z2C
  have KA_20 := Lib.hid (KA_15.out.step b2)
  clear KA_15
  have KB_21 := Lib.hid (KB_16.out.step b2)
  clear KB_16
  have KC_22 := Lib.hid (KC_17.out.step b2)
  clear KC_17
  have KK_23 := Lib.hid (KK_18.out.step b2)
  clear KK_18
  have HB24 := Lib.hid (keep2 b2 HB19.out)
  clear HB19 b2
  rw [S1.out]
  go_wp2
  go_ret
  exact ⟨rfl, HB24.out⟩
set_option maxRecDepth 100000 in
set_option maxHeartbeats 4000000 in
theorem more_vb (va : Value) (m : List Int) (vb : Value) (n : List Int) (key id tag : Int) (sl : Value) (l : List Cv) (r v x t u : Int) (w : World) (ha : TgAt w va m) (hb : TgAt w vb n) (h : CvsAt w sl l) (h1 : m.length ≤ 50) (h2 : n.length ≤ 50) (h3 : l.length ≤ 20) (h4 : stB m = true) (h5 : stB n = false) : Calls Try.prog 8 #[.agg #[va], .agg #[vb], .int .i64 key, .agg #[.int .i64 id, sl, .int .i64 tag], .agg #[.int .i64 r, .int .i64 v, .int .i64 x, .int .i64 t], .int .i64 u] w fun e w' => e = .returned (.bool true) ∧ Below w.heap.size w w' := by
  have H := Lib.hid h
  have HA := Lib.hid ha
  have HB := Lib.hid hb
  obtain ⟨a, cap, rfl, -, hm, -⟩ := h
  obtain ⟨⟨aa, ac, rfl, ham, -⟩, -⟩ := ha
  obtain ⟨⟨ba, bc, rfl, hbm, -⟩, -⟩ := hb
  unfold maxLen at hm ham hbm
  have S1 := Lib.hid h4
  clear h4
  have S2 := Lib.hid h5
  clear h5
  have g1 : decide (((m).length : Int) > 50) = false := by simp; omega
  have g1' : decide ((50 : Int) < ((m).length : Int)) = false := by simp; omega
  have g2 : decide (((n).length : Int) > 50) = false := by simp; omega
  have g2' : decide ((50 : Int) < ((n).length : Int)) = false := by simp; omega
  have g3 : decide (((l).length : Int) > 20) = false := by simp; omega
  have g3' : decide ((20 : Int) < ((l).length : Int)) = false := by simp; omega
  have HB0 := Lib.hid (Below.refl w.heap.size w)
  go_enter Try.func8, Try.ntmps8
  have KA_1 := Lib.hid (Cs.new w (w.heap.size) #[.slice aa m.length ac] 24 (by simp))
  have HB2 : Hid (Below w.heap.size w (w.alloc (.cells #[.slice aa m.length ac] 24))) := HB0.out.alloc HB0.out.size _
  clear HB0
  have KA_3 := Lib.hid (KA_1.out.alloc (.cells #[.slice ba n.length bc] 24))
  clear KA_1
  have KB_4 := Lib.hid (Cs.new (w.alloc (.cells #[.slice aa m.length ac] 24)) (w.heap.size + 1) #[.slice ba n.length bc] 24 (by simp))
  have HB5 : Hid (Below w.heap.size w ((w.alloc (.cells #[.slice aa m.length ac] 24)).alloc (.cells #[.slice ba n.length bc] 24))) := HB2.out.alloc HB2.out.size _
  clear HB2
  have KA_6 := Lib.hid (KA_3.out.alloc (.cells #[.int .i64 id, .slice a l.length cap, .int .i64 tag] 27))
  clear KA_3
  have KB_7 := Lib.hid (KB_4.out.alloc (.cells #[.int .i64 id, .slice a l.length cap, .int .i64 tag] 27))
  clear KB_4
  have KC_8 := Lib.hid (Cs.new ((w.alloc (.cells #[.slice aa m.length ac] 24)).alloc (.cells #[.slice ba n.length bc] 24)) (w.heap.size + 1 + 1) #[.int .i64 id, .slice a l.length cap, .int .i64 tag] 27 (by simp))
  have HB9 : Hid (Below w.heap.size w (((w.alloc (.cells #[.slice aa m.length ac] 24)).alloc (.cells #[.slice ba n.length bc] 24)).alloc (.cells #[.int .i64 id, .slice a l.length cap, .int .i64 tag] 27))) := HB5.out.alloc HB5.out.size _
  clear HB5
  have KA_10 := Lib.hid (KA_6.out.alloc (.cells #[.int .i64 r, .int .i64 v, .int .i64 x, .int .i64 t] 29))
  clear KA_6
  have KB_11 := Lib.hid (KB_7.out.alloc (.cells #[.int .i64 r, .int .i64 v, .int .i64 x, .int .i64 t] 29))
  clear KB_7
  have KC_12 := Lib.hid (KC_8.out.alloc (.cells #[.int .i64 r, .int .i64 v, .int .i64 x, .int .i64 t] 29))
  clear KC_8
  have KK_13 := Lib.hid (Cs.new (((w.alloc (.cells #[.slice aa m.length ac] 24)).alloc (.cells #[.slice ba n.length bc] 24)).alloc (.cells #[.int .i64 id, .slice a l.length cap, .int .i64 tag] 27)) (w.heap.size + 1 + 1 + 1) #[.int .i64 r, .int .i64 v, .int .i64 x, .int .i64 t] 29 (by simp))
  have HB14 : Hid (Below w.heap.size w ((((w.alloc (.cells #[.slice aa m.length ac] 24)).alloc (.cells #[.slice ba n.length bc] 24)).alloc (.cells #[.int .i64 id, .slice a l.length cap, .int .i64 tag] 27)).alloc (.cells #[.int .i64 r, .int .i64 v, .int .i64 x, .int .i64 t] 29))) := HB9.out.alloc HB9.out.size _
  clear HB9
  go_wp2_with fail
  refine (head_any _).mono ?_
  rintro e u1 ⟨rfl, b1⟩
  have KA_15 := Lib.hid (KA_10.out.step b1)
  clear KA_10
  have KB_16 := Lib.hid (KB_11.out.step b1)
  clear KB_11
  have KC_17 := Lib.hid (KC_12.out.step b1)
  clear KC_12
  have KK_18 := Lib.hid (KK_13.out.step b1)
  clear KK_13
  have HB19 := Lib.hid (keep2 b1 HB14.out)
  clear HB14 b1
  have xA0 : u1.cell? ⟨w.heap.size, 0, none⟩ = some (.slice aa m.length ac) := KA_15.out.c 0 rfl
  have zA : w.heap.size < u1.heap.size := KA_15.out.2.2
  have z2A : w.heap.size < u1.heap.size + 1 := by omega
  have xB0 : u1.cell? ⟨w.heap.size + 1, 0, none⟩ = some (.slice ba n.length bc) := KB_16.out.c 0 rfl
  have zB : w.heap.size + 1 < u1.heap.size := KB_16.out.2.2
  have z2B : w.heap.size + 1 < u1.heap.size + 1 := by omega
  have xC0 : u1.cell? ⟨w.heap.size + 1 + 1, 0, none⟩ = some (.int .i64 id) := KC_17.out.c 0 rfl
  have xC1 : u1.cell? ⟨w.heap.size + 1 + 1, 1, none⟩ = some (.slice a l.length cap) := KC_17.out.c 1 rfl
  have xC2 : u1.cell? ⟨w.heap.size + 1 + 1, 2, none⟩ = some (.int .i64 tag) := KC_17.out.c 2 rfl
  have zC : w.heap.size + 1 + 1 < u1.heap.size := KC_17.out.2.2
  have z2C : w.heap.size + 1 + 1 < u1.heap.size + 1 := by omega
  go_wp2_with fail
  refine (rvalid_any _ m _ (HA.out.step HB19.out).1).mono ?_
  rintro e u2 ⟨rfl, b2⟩
  clear xA0 zA z2A xB0 zB z2B xC0 xC1 xC2 zC z2C
  have KA_20 := Lib.hid (KA_15.out.step b2)
  clear KA_15
  have KB_21 := Lib.hid (KB_16.out.step b2)
  clear KB_16
  have KC_22 := Lib.hid (KC_17.out.step b2)
  clear KC_17
  have KK_23 := Lib.hid (KK_18.out.step b2)
  clear KK_18
  have HB24 := Lib.hid (keep2 b2 HB19.out)
  clear HB19 b2
  rw [S1.out]
  have xB0 : u2.cell? ⟨w.heap.size + 1, 0, none⟩ = some (.slice ba n.length bc) := KB_21.out.c 0 rfl
  have zB : w.heap.size + 1 < u2.heap.size := KB_21.out.2.2
  have z2B : w.heap.size + 1 < u2.heap.size + 1 := by omega
  go_wp2_with fail
  refine (rvalid_any _ n _ (HB.out.step HB24.out).1).mono ?_
  rintro e u3 ⟨rfl, b3⟩
  clear xB0 zB z2B
  have KA_25 := Lib.hid (KA_20.out.step b3)
  clear KA_20
  have KB_26 := Lib.hid (KB_21.out.step b3)
  clear KB_21
  have KC_27 := Lib.hid (KC_22.out.step b3)
  clear KC_22
  have KK_28 := Lib.hid (KK_23.out.step b3)
  clear KK_23
  have HB29 := Lib.hid (keep2 b3 HB24.out)
  clear HB24 b3
  rw [S2.out]
  go_wp2
  go_ret
  exact ⟨rfl, HB29.out⟩
set_option maxRecDepth 100000 in
set_option maxHeartbeats 4000000 in
theorem more_ok (va : Value) (m : List Int) (vb : Value) (n : List Int) (key id tag : Int) (sl : Value) (l : List Cv) (r v x t u : Int) (w : World) (ha : TgAt w va m) (hb : TgAt w vb n) (h : CvsAt w sl l) (h1 : m.length ≤ 50) (h2 : n.length ≤ 50) (h3 : l.length ≤ 20) (h4 : stB m = true) (h5 : stB n = true) : Calls Try.prog 8 #[.agg #[va], .agg #[vb], .int .i64 key, .agg #[.int .i64 id, sl, .int .i64 tag], .agg #[.int .i64 r, .int .i64 v, .int .i64 x, .int .i64 t], .int .i64 u] w fun e w' => e = .returned (.bool true) ∧ Below w.heap.size w w' := by
  have H := Lib.hid h
  have HA := Lib.hid ha
  have HB := Lib.hid hb
  obtain ⟨a, cap, rfl, -, hm, -⟩ := h
  obtain ⟨⟨aa, ac, rfl, ham, -⟩, -⟩ := ha
  obtain ⟨⟨ba, bc, rfl, hbm, -⟩, -⟩ := hb
  unfold maxLen at hm ham hbm
  have S1 := Lib.hid h4
  clear h4
  have S2 := Lib.hid h5
  clear h5
  have g1 : decide (((m).length : Int) > 50) = false := by simp; omega
  have g1' : decide ((50 : Int) < ((m).length : Int)) = false := by simp; omega
  have g2 : decide (((n).length : Int) > 50) = false := by simp; omega
  have g2' : decide ((50 : Int) < ((n).length : Int)) = false := by simp; omega
  have g3 : decide (((l).length : Int) > 20) = false := by simp; omega
  have g3' : decide ((20 : Int) < ((l).length : Int)) = false := by simp; omega
  obtain ⟨m1, m2, m3, m4⟩ := mg_small S1.out S2.out h1 h2
  have E1 := Lib.hid m1
  have E2 := Lib.hid m2
  have SM := Lib.hid m3
  clear m1 m2 m3 m4
  have HB0 := Lib.hid (Below.refl w.heap.size w)
  go_enter Try.func8, Try.ntmps8
  have KA_1 := Lib.hid (Cs.new w (w.heap.size) #[.slice aa m.length ac] 24 (by simp))
  have HB2 : Hid (Below w.heap.size w (w.alloc (.cells #[.slice aa m.length ac] 24))) := HB0.out.alloc HB0.out.size _
  clear HB0
  have KA_3 := Lib.hid (KA_1.out.alloc (.cells #[.slice ba n.length bc] 24))
  clear KA_1
  have KB_4 := Lib.hid (Cs.new (w.alloc (.cells #[.slice aa m.length ac] 24)) (w.heap.size + 1) #[.slice ba n.length bc] 24 (by simp))
  have HB5 : Hid (Below w.heap.size w ((w.alloc (.cells #[.slice aa m.length ac] 24)).alloc (.cells #[.slice ba n.length bc] 24))) := HB2.out.alloc HB2.out.size _
  clear HB2
  have KA_6 := Lib.hid (KA_3.out.alloc (.cells #[.int .i64 id, .slice a l.length cap, .int .i64 tag] 27))
  clear KA_3
  have KB_7 := Lib.hid (KB_4.out.alloc (.cells #[.int .i64 id, .slice a l.length cap, .int .i64 tag] 27))
  clear KB_4
  have KC_8 := Lib.hid (Cs.new ((w.alloc (.cells #[.slice aa m.length ac] 24)).alloc (.cells #[.slice ba n.length bc] 24)) (w.heap.size + 1 + 1) #[.int .i64 id, .slice a l.length cap, .int .i64 tag] 27 (by simp))
  have HB9 : Hid (Below w.heap.size w (((w.alloc (.cells #[.slice aa m.length ac] 24)).alloc (.cells #[.slice ba n.length bc] 24)).alloc (.cells #[.int .i64 id, .slice a l.length cap, .int .i64 tag] 27))) := HB5.out.alloc HB5.out.size _
  clear HB5
  have KA_10 := Lib.hid (KA_6.out.alloc (.cells #[.int .i64 r, .int .i64 v, .int .i64 x, .int .i64 t] 29))
  clear KA_6
  have KB_11 := Lib.hid (KB_7.out.alloc (.cells #[.int .i64 r, .int .i64 v, .int .i64 x, .int .i64 t] 29))
  clear KB_7
  have KC_12 := Lib.hid (KC_8.out.alloc (.cells #[.int .i64 r, .int .i64 v, .int .i64 x, .int .i64 t] 29))
  clear KC_8
  have KK_13 := Lib.hid (Cs.new (((w.alloc (.cells #[.slice aa m.length ac] 24)).alloc (.cells #[.slice ba n.length bc] 24)).alloc (.cells #[.int .i64 id, .slice a l.length cap, .int .i64 tag] 27)) (w.heap.size + 1 + 1 + 1) #[.int .i64 r, .int .i64 v, .int .i64 x, .int .i64 t] 29 (by simp))
  have HB14 : Hid (Below w.heap.size w ((((w.alloc (.cells #[.slice aa m.length ac] 24)).alloc (.cells #[.slice ba n.length bc] 24)).alloc (.cells #[.int .i64 id, .slice a l.length cap, .int .i64 tag] 27)).alloc (.cells #[.int .i64 r, .int .i64 v, .int .i64 x, .int .i64 t] 29))) := HB9.out.alloc HB9.out.size _
  clear HB9
  go_wp2_with fail
  refine (head_any _).mono ?_
  rintro e u1 ⟨rfl, b1⟩
  have KA_15 := Lib.hid (KA_10.out.step b1)
  clear KA_10
  have KB_16 := Lib.hid (KB_11.out.step b1)
  clear KB_11
  have KC_17 := Lib.hid (KC_12.out.step b1)
  clear KC_12
  have KK_18 := Lib.hid (KK_13.out.step b1)
  clear KK_13
  have HB19 := Lib.hid (keep2 b1 HB14.out)
  clear HB14 b1
  have xA0 : u1.cell? ⟨w.heap.size, 0, none⟩ = some (.slice aa m.length ac) := KA_15.out.c 0 rfl
  have zA : w.heap.size < u1.heap.size := KA_15.out.2.2
  have z2A : w.heap.size < u1.heap.size + 1 := by omega
  have xB0 : u1.cell? ⟨w.heap.size + 1, 0, none⟩ = some (.slice ba n.length bc) := KB_16.out.c 0 rfl
  have zB : w.heap.size + 1 < u1.heap.size := KB_16.out.2.2
  have z2B : w.heap.size + 1 < u1.heap.size + 1 := by omega
  have xC0 : u1.cell? ⟨w.heap.size + 1 + 1, 0, none⟩ = some (.int .i64 id) := KC_17.out.c 0 rfl
  have xC1 : u1.cell? ⟨w.heap.size + 1 + 1, 1, none⟩ = some (.slice a l.length cap) := KC_17.out.c 1 rfl
  have xC2 : u1.cell? ⟨w.heap.size + 1 + 1, 2, none⟩ = some (.int .i64 tag) := KC_17.out.c 2 rfl
  have zC : w.heap.size + 1 + 1 < u1.heap.size := KC_17.out.2.2
  have z2C : w.heap.size + 1 + 1 < u1.heap.size + 1 := by omega
  go_wp2_with fail
  refine (rvalid_any _ m _ (HA.out.step HB19.out).1).mono ?_
  rintro e u2 ⟨rfl, b2⟩
  clear xA0 zA z2A xB0 zB z2B xC0 xC1 xC2 zC z2C
  have KA_20 := Lib.hid (KA_15.out.step b2)
  clear KA_15
  have KB_21 := Lib.hid (KB_16.out.step b2)
  clear KB_16
  have KC_22 := Lib.hid (KC_17.out.step b2)
  clear KC_17
  have KK_23 := Lib.hid (KK_18.out.step b2)
  clear KK_18
  have HB24 := Lib.hid (keep2 b2 HB19.out)
  clear HB19 b2
  rw [S1.out]
  have xB0 : u2.cell? ⟨w.heap.size + 1, 0, none⟩ = some (.slice ba n.length bc) := KB_21.out.c 0 rfl
  have zB : w.heap.size + 1 < u2.heap.size := KB_21.out.2.2
  have z2B : w.heap.size + 1 < u2.heap.size + 1 := by omega
  go_wp2_with fail
  refine (rvalid_any _ n _ (HB.out.step HB24.out).1).mono ?_
  rintro e u3 ⟨rfl, b3⟩
  clear xB0 zB z2B
  have KA_25 := Lib.hid (KA_20.out.step b3)
  clear KA_20
  have KB_26 := Lib.hid (KB_21.out.step b3)
  clear KB_21
  have KC_27 := Lib.hid (KC_22.out.step b3)
  clear KC_22
  have KK_28 := Lib.hid (KK_23.out.step b3)
  clear KK_23
  have HB29 := Lib.hid (keep2 b3 HB24.out)
  clear HB24 b3
  rw [S2.out]
  have xA0 : u3.cell? ⟨w.heap.size, 0, none⟩ = some (.slice aa m.length ac) := KA_25.out.c 0 rfl
  have zA : w.heap.size < u3.heap.size := KA_25.out.2.2
  have z2A : w.heap.size < u3.heap.size + 1 := by omega
  have xB0 : u3.cell? ⟨w.heap.size + 1, 0, none⟩ = some (.slice ba n.length bc) := KB_26.out.c 0 rfl
  have zB : w.heap.size + 1 < u3.heap.size := KB_26.out.2.2
  have z2B : w.heap.size + 1 < u3.heap.size + 1 := by omega
  go_wp2_with fail
  refine (merge2_any _ _ m n _ (HA.out.step HB29.out) (HB.out.step HB29.out)).mono ?_
  rintro e u24 ⟨⟨um, rfl, hum⟩, b24⟩
  rw [E1.out]
  obtain ⟨ma, mc, rfl, htm⟩ := row_tg hum E2.out rfl
  have HTM := Lib.hid htm
  clear hum htm
  clear xA0 zA z2A xB0 zB z2B
  have KA_30 := Lib.hid (KA_25.out.step b24)
  clear KA_25
  have KB_31 := Lib.hid (KB_26.out.step b24)
  clear KB_26
  have KC_32 := Lib.hid (KC_27.out.step b24)
  clear KC_27
  have KK_33 := Lib.hid (KK_28.out.step b24)
  clear KK_28
  have HB34 := Lib.hid (keep2 b24 HB29.out)
  clear HB29 b24
  replace HTM := Lib.hid (HTM.out.step (al u24 (.cells #[.slice ma (mg m n).length mc] 24)))
  have KA_35 := Lib.hid (KA_30.out.alloc (.cells #[.slice ma (mg m n).length mc] 24))
  clear KA_30
  have KB_36 := Lib.hid (KB_31.out.alloc (.cells #[.slice ma (mg m n).length mc] 24))
  clear KB_31
  have KC_37 := Lib.hid (KC_32.out.alloc (.cells #[.slice ma (mg m n).length mc] 24))
  clear KC_32
  have KK_38 := Lib.hid (KK_33.out.alloc (.cells #[.slice ma (mg m n).length mc] 24))
  clear KK_33
  have KM_39 := Lib.hid (Cs.new u24 (u24.heap.size) #[.slice ma (mg m n).length mc] 24 (by simp))
  have HB40 : Hid (Below w.heap.size w (u24.alloc (.cells #[.slice ma (mg m n).length mc] 24))) := HB34.out.alloc HB34.out.size _
  clear HB34
  have xC0 : (u24.alloc (.cells #[.slice ma (mg m n).length mc] 24)).cell? ⟨w.heap.size + 1 + 1, 0, none⟩ = some (.int .i64 id) := KC_37.out.c 0 rfl
  have xC1 : (u24.alloc (.cells #[.slice ma (mg m n).length mc] 24)).cell? ⟨w.heap.size + 1 + 1, 1, none⟩ = some (.slice a l.length cap) := KC_37.out.c 1 rfl
  have xC2 : (u24.alloc (.cells #[.slice ma (mg m n).length mc] 24)).cell? ⟨w.heap.size + 1 + 1, 2, none⟩ = some (.int .i64 tag) := KC_37.out.c 2 rfl
  have zC : w.heap.size + 1 + 1 < (u24.alloc (.cells #[.slice ma (mg m n).length mc] 24)).heap.size := KC_37.out.2.2
  have z2C : w.heap.size + 1 + 1 < (u24.alloc (.cells #[.slice ma (mg m n).length mc] 24)).heap.size + 1 := by omega
  have xK0 : (u24.alloc (.cells #[.slice ma (mg m n).length mc] 24)).cell? ⟨w.heap.size + 1 + 1 + 1, 0, none⟩ = some (.int .i64 r) := KK_38.out.c 0 rfl
  have xK1 : (u24.alloc (.cells #[.slice ma (mg m n).length mc] 24)).cell? ⟨w.heap.size + 1 + 1 + 1, 1, none⟩ = some (.int .i64 v) := KK_38.out.c 1 rfl
  have xK2 : (u24.alloc (.cells #[.slice ma (mg m n).length mc] 24)).cell? ⟨w.heap.size + 1 + 1 + 1, 2, none⟩ = some (.int .i64 x) := KK_38.out.c 2 rfl
  have xK3 : (u24.alloc (.cells #[.slice ma (mg m n).length mc] 24)).cell? ⟨w.heap.size + 1 + 1 + 1, 3, none⟩ = some (.int .i64 t) := KK_38.out.c 3 rfl
  have zK : w.heap.size + 1 + 1 + 1 < (u24.alloc (.cells #[.slice ma (mg m n).length mc] 24)).heap.size := KK_38.out.2.2
  have z2K : w.heap.size + 1 + 1 + 1 < (u24.alloc (.cells #[.slice ma (mg m n).length mc] 24)).heap.size + 1 := by omega
  go_wp2_with fail
  refine (check_any key id tag r v x t u _ l _ (H.out.step HB40.out)).mono ?_
  rintro e u25 ⟨rfl, b25⟩
  obtain ⟨W, hW⟩ : ∃ W, ckV key id tag l r v x t u = W := ⟨_, rfl⟩
  rw [hW]
  replace hW := Lib.hid hW
  replace HTM := Lib.hid (HTM.out.step b25)
  clear xC0 xC1 xC2 zC z2C xK0 xK1 xK2 xK3 zK z2K
  have KA_41 := Lib.hid (KA_35.out.step b25)
  clear KA_35
  have KB_42 := Lib.hid (KB_36.out.step b25)
  clear KB_36
  have KC_43 := Lib.hid (KC_37.out.step b25)
  clear KC_37
  have KK_44 := Lib.hid (KK_38.out.step b25)
  clear KK_38
  have KM_45 := Lib.hid (KM_39.out.step b25)
  clear KM_39
  have HB46 := Lib.hid (keep2 b25 HB40.out)
  clear HB40 b25
  have xC0 : u25.cell? ⟨w.heap.size + 1 + 1, 0, none⟩ = some (.int .i64 id) := KC_43.out.c 0 rfl
  have xC1 : u25.cell? ⟨w.heap.size + 1 + 1, 1, none⟩ = some (.slice a l.length cap) := KC_43.out.c 1 rfl
  have xC2 : u25.cell? ⟨w.heap.size + 1 + 1, 2, none⟩ = some (.int .i64 tag) := KC_43.out.c 2 rfl
  have zC : w.heap.size + 1 + 1 < u25.heap.size := KC_43.out.2.2
  have z2C : w.heap.size + 1 + 1 < u25.heap.size + 1 := by omega
  have xK0 : u25.cell? ⟨w.heap.size + 1 + 1 + 1, 0, none⟩ = some (.int .i64 r) := KK_44.out.c 0 rfl
  have xK1 : u25.cell? ⟨w.heap.size + 1 + 1 + 1, 1, none⟩ = some (.int .i64 v) := KK_44.out.c 1 rfl
  have xK2 : u25.cell? ⟨w.heap.size + 1 + 1 + 1, 2, none⟩ = some (.int .i64 x) := KK_44.out.c 2 rfl
  have xK3 : u25.cell? ⟨w.heap.size + 1 + 1 + 1, 3, none⟩ = some (.int .i64 t) := KK_44.out.c 3 rfl
  have zK : w.heap.size + 1 + 1 + 1 < u25.heap.size := KK_44.out.2.2
  have z2K : w.heap.size + 1 + 1 + 1 < u25.heap.size + 1 := by omega
  go_wp2_with fail
  refine (chk_any key id tag r v x t u _ _ [] l _ (H.out.step HB46.out) (ints_nil _)).mono ?_
  rintro e u26 ⟨rfl, b26⟩
  rw [ckR_nil, hW.out]
  replace HTM := Lib.hid (HTM.out.step b26)
  clear xC0 xC1 xC2 zC z2C xK0 xK1 xK2 xK3 zK z2K
  have KA_47 := Lib.hid (KA_41.out.step b26)
  clear KA_41
  have KB_48 := Lib.hid (KB_42.out.step b26)
  clear KB_42
  have KC_49 := Lib.hid (KC_43.out.step b26)
  clear KC_43
  have KK_50 := Lib.hid (KK_44.out.step b26)
  clear KK_44
  have KM_51 := Lib.hid (KM_45.out.step b26)
  clear KM_45
  have HB52 := Lib.hid (keep2 b26 HB46.out)
  clear HB46 b26
  have we : (W != W) = false := by simp
  have xC0 : u26.cell? ⟨w.heap.size + 1 + 1, 0, none⟩ = some (.int .i64 id) := KC_49.out.c 0 rfl
  have xC1 : u26.cell? ⟨w.heap.size + 1 + 1, 1, none⟩ = some (.slice a l.length cap) := KC_49.out.c 1 rfl
  have xC2 : u26.cell? ⟨w.heap.size + 1 + 1, 2, none⟩ = some (.int .i64 tag) := KC_49.out.c 2 rfl
  have zC : w.heap.size + 1 + 1 < u26.heap.size := KC_49.out.2.2
  have z2C : w.heap.size + 1 + 1 < u26.heap.size + 1 := by omega
  have xK0 : u26.cell? ⟨w.heap.size + 1 + 1 + 1, 0, none⟩ = some (.int .i64 r) := KK_50.out.c 0 rfl
  have xK1 : u26.cell? ⟨w.heap.size + 1 + 1 + 1, 1, none⟩ = some (.int .i64 v) := KK_50.out.c 1 rfl
  have xK2 : u26.cell? ⟨w.heap.size + 1 + 1 + 1, 2, none⟩ = some (.int .i64 x) := KK_50.out.c 2 rfl
  have xK3 : u26.cell? ⟨w.heap.size + 1 + 1 + 1, 3, none⟩ = some (.int .i64 t) := KK_50.out.c 3 rfl
  have zK : w.heap.size + 1 + 1 + 1 < u26.heap.size := KK_50.out.2.2
  have z2K : w.heap.size + 1 + 1 + 1 < u26.heap.size + 1 := by omega
  have xM0 : u26.cell? ⟨u24.heap.size, 0, none⟩ = some (.slice ma (mg m n).length mc) := KM_51.out.c 0 rfl
  have zM : u24.heap.size < u26.heap.size := KM_51.out.2.2
  have z2M : u24.heap.size < u26.heap.size + 1 := by omega
  go_wp2_with fail
  refine (chk_any key id tag r v x t u _ _ (mg m n) l _ (H.out.step HB52.out) HTM.out.1).mono ?_
  rintro e u30 ⟨rfl, b30⟩
  obtain ⟨VA, hVA⟩ : ∃ V, ckR key (mg m n) id tag l r v x t u = V := ⟨_, rfl⟩
  rw [hVA]
  replace hVA := Lib.hid hVA
  replace HTM := Lib.hid (HTM.out.step b30)
  clear xC0 xC1 xC2 zC z2C xK0 xK1 xK2 xK3 zK z2K xM0 zM z2M
  have KA_53 := Lib.hid (KA_47.out.step b30)
  clear KA_47
  have KB_54 := Lib.hid (KB_48.out.step b30)
  clear KB_48
  have KC_55 := Lib.hid (KC_49.out.step b30)
  clear KC_49
  have KK_56 := Lib.hid (KK_50.out.step b30)
  clear KK_50
  have KM_57 := Lib.hid (KM_51.out.step b30)
  clear KM_51
  have HB58 := Lib.hid (keep2 b30 HB52.out)
  clear HB52 b30
  have xA0 : u30.cell? ⟨w.heap.size, 0, none⟩ = some (.slice aa m.length ac) := KA_53.out.c 0 rfl
  have zA : w.heap.size < u30.heap.size := KA_53.out.2.2
  have z2A : w.heap.size < u30.heap.size + 1 := by omega
  have xC0 : u30.cell? ⟨w.heap.size + 1 + 1, 0, none⟩ = some (.int .i64 id) := KC_55.out.c 0 rfl
  have xC1 : u30.cell? ⟨w.heap.size + 1 + 1, 1, none⟩ = some (.slice a l.length cap) := KC_55.out.c 1 rfl
  have xC2 : u30.cell? ⟨w.heap.size + 1 + 1, 2, none⟩ = some (.int .i64 tag) := KC_55.out.c 2 rfl
  have zC : w.heap.size + 1 + 1 < u30.heap.size := KC_55.out.2.2
  have z2C : w.heap.size + 1 + 1 < u30.heap.size + 1 := by omega
  have xK0 : u30.cell? ⟨w.heap.size + 1 + 1 + 1, 0, none⟩ = some (.int .i64 r) := KK_56.out.c 0 rfl
  have xK1 : u30.cell? ⟨w.heap.size + 1 + 1 + 1, 1, none⟩ = some (.int .i64 v) := KK_56.out.c 1 rfl
  have xK2 : u30.cell? ⟨w.heap.size + 1 + 1 + 1, 2, none⟩ = some (.int .i64 x) := KK_56.out.c 2 rfl
  have xK3 : u30.cell? ⟨w.heap.size + 1 + 1 + 1, 3, none⟩ = some (.int .i64 t) := KK_56.out.c 3 rfl
  have zK : w.heap.size + 1 + 1 + 1 < u30.heap.size := KK_56.out.2.2
  have z2K : w.heap.size + 1 + 1 + 1 < u30.heap.size + 1 := by omega
  go_wp2_with fail
  refine (chk_any key id tag r v x t u _ _ m l _ (H.out.step HB58.out) (HA.out.step HB58.out).1).mono ?_
  rintro e u31 ⟨rfl, b31⟩
  obtain ⟨V1, hV1⟩ : ∃ V, ckR key m id tag l r v x t u = V := ⟨_, rfl⟩
  rw [hV1]
  replace hV1 := Lib.hid hV1
  replace HTM := Lib.hid (HTM.out.step b31)
  clear xA0 zA z2A xC0 xC1 xC2 zC z2C xK0 xK1 xK2 xK3 zK z2K
  have KA_59 := Lib.hid (KA_53.out.step b31)
  clear KA_53
  have KB_60 := Lib.hid (KB_54.out.step b31)
  clear KB_54
  have KC_61 := Lib.hid (KC_55.out.step b31)
  clear KC_55
  have KK_62 := Lib.hid (KK_56.out.step b31)
  clear KK_56
  have KM_63 := Lib.hid (KM_57.out.step b31)
  clear KM_57
  have HB64 := Lib.hid (keep2 b31 HB58.out)
  clear HB58 b31
  have xB0 : u31.cell? ⟨w.heap.size + 1, 0, none⟩ = some (.slice ba n.length bc) := KB_60.out.c 0 rfl
  have zB : w.heap.size + 1 < u31.heap.size := KB_60.out.2.2
  have z2B : w.heap.size + 1 < u31.heap.size + 1 := by omega
  have xC0 : u31.cell? ⟨w.heap.size + 1 + 1, 0, none⟩ = some (.int .i64 id) := KC_61.out.c 0 rfl
  have xC1 : u31.cell? ⟨w.heap.size + 1 + 1, 1, none⟩ = some (.slice a l.length cap) := KC_61.out.c 1 rfl
  have xC2 : u31.cell? ⟨w.heap.size + 1 + 1, 2, none⟩ = some (.int .i64 tag) := KC_61.out.c 2 rfl
  have zC : w.heap.size + 1 + 1 < u31.heap.size := KC_61.out.2.2
  have z2C : w.heap.size + 1 + 1 < u31.heap.size + 1 := by omega
  have xK0 : u31.cell? ⟨w.heap.size + 1 + 1 + 1, 0, none⟩ = some (.int .i64 r) := KK_62.out.c 0 rfl
  have xK1 : u31.cell? ⟨w.heap.size + 1 + 1 + 1, 1, none⟩ = some (.int .i64 v) := KK_62.out.c 1 rfl
  have xK2 : u31.cell? ⟨w.heap.size + 1 + 1 + 1, 2, none⟩ = some (.int .i64 x) := KK_62.out.c 2 rfl
  have xK3 : u31.cell? ⟨w.heap.size + 1 + 1 + 1, 3, none⟩ = some (.int .i64 t) := KK_62.out.c 3 rfl
  have zK : w.heap.size + 1 + 1 + 1 < u31.heap.size := KK_62.out.2.2
  have z2K : w.heap.size + 1 + 1 + 1 < u31.heap.size + 1 := by omega
  go_wp2_with fail
  refine (chk_any key id tag r v x t u _ _ n l _ (H.out.step HB64.out) (HB.out.step HB64.out).1).mono ?_
  rintro e u32 ⟨rfl, b32⟩
  obtain ⟨V2, hV2⟩ : ∃ V, ckR key n id tag l r v x t u = V := ⟨_, rfl⟩
  rw [hV2]
  replace hV2 := Lib.hid hV2
  replace HTM := Lib.hid (HTM.out.step b32)
  clear xB0 zB z2B xC0 xC1 xC2 zC z2C xK0 xK1 xK2 xK3 zK z2K
  have KA_65 := Lib.hid (KA_59.out.step b32)
  clear KA_59
  have KB_66 := Lib.hid (KB_60.out.step b32)
  clear KB_60
  have KC_67 := Lib.hid (KC_61.out.step b32)
  clear KC_61
  have KK_68 := Lib.hid (KK_62.out.step b32)
  clear KK_62
  have KM_69 := Lib.hid (KM_63.out.step b32)
  clear KM_63
  have HB70 := Lib.hid (keep2 b32 HB64.out)
  clear HB64 b32
  rcases more_cases S1.out S2.out SM.out hW.out hV1.out hV2.out hVA.out with ⟨rfl, rfl, rfl, rfl⟩ | ⟨⟨w1, w2⟩, ⟨rfl, rfl, rfl⟩ | ⟨rfl, rfl, rfl⟩ | ⟨rfl, rfl, rfl⟩ | ⟨rfl, rfl, rfl⟩⟩
  · go_wp2
    go_ret
    exact ⟨rfl, HB70.out⟩
  · have f1 : (W == 21) = false := by simpa using w1
    have f2 : decide (W = 21) = false := by simpa using w1
    have f3 : (W == 1) = false := by simpa using w2
    have w3 : ¬ (21 : Int) = W := fun h => w1 h.symm
    have f7 : ((21 : Int) == W) = false := by simpa using w3
    have f8 : decide ((21 : Int) = W) = false := by simpa using w3
    clear w1 w2 w3
    go_wp2
    go_ret
    exact ⟨rfl, HB70.out⟩
  · have f1 : (W == 21) = false := by simpa using w1
    have f2 : decide (W = 21) = false := by simpa using w1
    have f3 : (W == 1) = false := by simpa using w2
    have w3 : ¬ (21 : Int) = W := fun h => w1 h.symm
    have f7 : ((21 : Int) == W) = false := by simpa using w3
    have f8 : decide ((21 : Int) = W) = false := by simpa using w3
    clear w1 w2 w3
    by_cases w0 : W = 0
    · subst w0
      go_wp2
      go_ret
      exact ⟨rfl, HB70.out⟩
    · have f4 : (W == 0) = false := by simpa using w0
      have f5 : decide (W = 0) = false := by simpa using w0
      have f6 : (W != 0) = true := by simpa using w0
      go_wp2
      go_ret
      exact ⟨rfl, HB70.out⟩
  · have f1 : (W == 21) = false := by simpa using w1
    have f2 : decide (W = 21) = false := by simpa using w1
    have f3 : (W == 1) = false := by simpa using w2
    have w3 : ¬ (21 : Int) = W := fun h => w1 h.symm
    have f7 : ((21 : Int) == W) = false := by simpa using w3
    have f8 : decide ((21 : Int) = W) = false := by simpa using w3
    clear w1 w2 w3
    by_cases w0 : W = 0
    · subst w0
      go_wp2
      go_ret
      exact ⟨rfl, HB70.out⟩
    · have f4 : (W == 0) = false := by simpa using w0
      have f5 : decide (W = 0) = false := by simpa using w0
      have f6 : (W != 0) = true := by simpa using w0
      go_wp2
      go_ret
      exact ⟨rfl, HB70.out⟩
  · have f1 : (W == 21) = false := by simpa using w1
    have f2 : decide (W = 21) = false := by simpa using w1
    have f3 : (W == 1) = false := by simpa using w2
    have w3 : ¬ (21 : Int) = W := fun h => w1 h.symm
    have f7 : ((21 : Int) == W) = false := by simpa using w3
    have f8 : decide ((21 : Int) = W) = false := by simpa using w3
    clear w1 w2 w3
    by_cases w0 : W = 0
    · subst w0
      go_wp2
      go_ret
      exact ⟨rfl, HB70.out⟩
    · have f4 : (W == 0) = false := by simpa using w0
      have f5 : decide (W = 0) = false := by simpa using w0
      have f6 : (W != 0) = true := by simpa using w0
      go_wp2
      go_ret
      exact ⟨rfl, HB70.out⟩
theorem more_any (va : Value) (m : List Int) (vb : Value) (n : List Int) (key id tag : Int) (sl : Value) (l : List Cv) (r v x t u : Int) (w : World) (ha : TgAt w va m) (hb : TgAt w vb n) (h : CvsAt w sl l) : Calls Try.prog 8 #[.agg #[va], .agg #[vb], .int .i64 key, .agg #[.int .i64 id, sl, .int .i64 tag], .agg #[.int .i64 r, .int .i64 v, .int .i64 x, .int .i64 t], .int .i64 u] w fun e w' => e = .returned (.bool true) ∧ Below w.heap.size w w' := by
  by_cases h1 : m.length ≤ 50
  · by_cases h2 : n.length ≤ 50
    · by_cases h3 : l.length ≤ 20
      · cases h4 : stB m
        · exact more_va va m vb n key id tag sl l r v x t u w ha hb h h1 h2 h3 h4
        · cases h5 : stB n
          · exact more_vb va m vb n key id tag sl l r v x t u w ha hb h h1 h2 h3 h4 h5
          · exact more_ok va m vb n key id tag sl l r v x t u w ha hb h h1 h2 h3 h4 h5
      · exact more_c va m vb n key id tag sl l r v x t u w ha hb h h1 h2 (by omega)
    · exact more_b va m vb n key id tag sl l r v x t u w ha hb h h1 (by omega)
  · exact more_a va m vb n key id tag sl l r v x t u w ha hb h (by omega)
end Go.Proofs.Ytpoldplmaomkaaa
