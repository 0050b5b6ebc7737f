/- Sets of tags: law RevokeSets. -/
import Derived.Test.YtpoldplmaomkaaaRo
namespace Go.Proofs.Ytpoldplmaomkaaa
open Go.RowKit

theorem add_zero {m : List Int} {x : Int} (h : mgE m [x] = 0) : (stB m = true ∧ tgB x = true) ∧ mgL m [x] = mg m [x] ∧ stB (mg m [x]) = true := by
  have h1 : stB m = true := by
    cases hm : stB m
    · unfold mgE at h; simp [hm] at h
    · rfl
  have h2 : tgB x = true := by
    cases hx : tgB x
    · unfold mgE at h; simp [st_one, hx] at h
    · rfl
  have hl : (mg m [x]).length ≤ 400 := by
    apply Classical.byContradiction; intro hn
    unfold mgE at h; simp [st_one, h2, h1, hn] at h
  exact ⟨⟨h1, h2⟩, by unfold mgL; rw [h]; rfl, mg_st h1 (by rw [st_one]; exact h2) hl⟩
theorem add_err {m : List Int} {x : Int} (h : mgE m [x] ≠ 0) : mgL m [x] = [] ∧ (mgE m [x] = 1 ∨ (mgE m [x] = 30 ∧ m.length = 400)) := by
  refine ⟨by unfold mgL; rw [if_neg h], ?_⟩
  unfold mgE at h ⊢
  by_cases h1 : stB m = true
  · by_cases h2 : stB [x] = true
    · rw [h1, h2] at h ⊢
      by_cases hl : (mg m [x]).length ≤ 400
      · rw [if_pos (by rfl), if_pos hl] at h; exact absurd rfl h
      · rw [if_pos (by rfl), if_neg hl]
        have := mg_len m [x]
        have := (st_iff.1 h1).2
        simp at *
        omega
    · rw [Bool.not_eq_true] at h2
      rw [h2]; simp
  · rw [Bool.not_eq_true] at h1
    rw [h1]; simp
theorem hs_iff {l : List Int} {y : Int} (h : stB l = true) : hsB l y = true ↔ y ∈ l := by unfold hsB; rw [h]; exact inB_iff
theorem sets_zero {m : List Int} {x : Int} (y : Int) (h : mgE m [x] = 0) : mgE (mg m [x]) [x] = 0 ∧ mgL (mg m [x]) [x] = mg m [x] ∧ hsB (mg m [x]) x = true ∧ (hsB m y = true → hsB (mg m [x]) y = true) ∧ (hsB m y = false → hsB (mg m [x]) y = (x == y)) := by
  obtain ⟨⟨h1, h2⟩, -, h3⟩ := add_zero h
  have hx : stB [x] = true := by rw [st_one]; exact h2
  have e : mg (mg m [x]) [x] = mg m [x] := by rw [mg_assoc h1 hx hx, mg_self hx]
  have e1 : mgE (mg m [x]) [x] = 0 := by unfold mgE; rw [h3, hx, e]; simp [(st_iff.1 h3).2]
  refine ⟨e1, by unfold mgL; rw [e1, e]; rfl, (hs_iff h3).2 ((mem_mg _ _ _).2 (.inr (by simp))), fun hy => (hs_iff h3).2 ((mem_mg _ _ _).2 (.inl ((hs_iff h1).1 hy))), fun hy => ?_⟩
  have hy : ¬ y ∈ m := fun hh => by rw [(hs_iff h1).2 hh] at hy; cases hy
  rw [Bool.eq_iff_iff, hs_iff h3, mem_mg, beq_iff_eq]
  simp [hy, eq_comm]
theorem sls_one (W : World) (a : Option Addr) (n c : Nat) (b : Nat) (hb : b = W.heap.size) : SlsAt (W.alloc (.cells #[.slice a n c] 24)) (.slice (some ⟨b, 0, none⟩) 1 1) [(a, n, c)] := by
  refine ⟨b, 1, rfl, fun i t hi => ?_⟩
  rcases i with _ | i
  · cases hi; exact (Cs.new W b #[.slice a n c] 24 hb).c 0 rfl
  · cases hi
set_option maxRecDepth 100000 in
set_option maxHeartbeats 4000000 in
theorem sets_few (va : Value) (m : List Int) (x y : Int) (w : World) (ha : TgAt w va m) (hx : -9223372036854775808 ≤ x ∧ x ≤ 9223372036854775807) (hy : -9223372036854775808 ≤ y ∧ y ≤ 9223372036854775807) (hf : fwB m.length = false) : Calls Try.prog 4 #[.agg #[va], .int .i64 x, .int .i64 y] w fun e w' => e = .returned (.bool true) ∧ Below w.heap.size w w' := by
  have HA := Lib.hid ha
  have HX := Lib.hid hx
  have HY := Lib.hid hy
  clear hx hy
  obtain ⟨⟨aa, ac, rfl, ham, -⟩, -⟩ := ha
  unfold maxLen at ham
  have FW := Lib.hid hf
  clear hf
  have HB0 := Lib.hid (Below.refl w.heap.size w)
  go_enter Try.func4, Try.ntmps4
  have KA_1 := Lib.hid (Cs.new w (w.heap.size) #[.slice aa m.length ac] 24 (by simp))
  have HB2 : Hid (Below w.heap.size w (w.alloc (.cells #[.slice aa m.length ac] 24))) := HB0.out.alloc HB0.out.size _
  clear HB0
  go_wp2_with fail
  refine (head_any _).mono ?_
  rintro e u1 ⟨rfl, b1⟩
  have KA_3 := Lib.hid (KA_1.out.step b1)
  clear KA_1
  have HB4 := Lib.hid (keep2 b1 HB2.out)
  clear HB2 b1
  have xA0 : u1.cell? ⟨w.heap.size, 0, none⟩ = some (.slice aa m.length ac) := KA_3.out.c 0 rfl
  have zA : w.heap.size < u1.heap.size := KA_3.out.2.2
  have z2A : w.heap.size < u1.heap.size + 1 := by omega
  go_wp2_with fail
  have KA_5 := Lib.hid (KA_3.out.alloc (.cells #[.slice aa m.length ac] 24))
  clear KA_3
  have HB6 : Hid (Below w.heap.size w (u1.alloc (.cells #[.slice aa m.length ac] 24))) := HB4.out.alloc HB4.out.size _
  clear HB4
  refine (few_any _ [(aa, m.length, ac)] _ (sls_one u1 aa m.length ac u1.heap.size rfl) (by simp) (by intro q hq; simp at hq; subst hq; unfold maxLen; omega)).mono ?_
  rintro e w' ⟨rfl, rfl⟩
  rw [show ([(aa, m.length, ac)] : List (Option Addr × Nat × Nat)).all (fun q => fwB q.2.1) = false from by simp only [List.all_cons, List.all_nil, FW.out]; rfl]
  clear xA0 zA z2A
  go_wp2
  go_ret
  exact ⟨rfl, HB6.out⟩
set_option maxRecDepth 100000 in
set_option maxHeartbeats 4000000 in
theorem sets_e1 (va : Value) (m : List Int) (x y : Int) (w : World) (ha : TgAt w va m) (hx : -9223372036854775808 ≤ x ∧ x ≤ 9223372036854775807) (hy : -9223372036854775808 ≤ y ∧ y ≤ 9223372036854775807) (hf : fwB m.length = true) (he : mgE m [x] = 1) : Calls Try.prog 4 #[.agg #[va], .int .i64 x, .int .i64 y] w fun e w' => e = .returned (.bool true) ∧ Below w.heap.size w w' := by
  have HA := Lib.hid ha
  have HX := Lib.hid hx
  have HY := Lib.hid hy
  clear hx hy
  obtain ⟨⟨aa, ac, rfl, ham, -⟩, -⟩ := ha
  unfold maxLen at ham
  have FW := Lib.hid hf
  clear hf
  have HE := Lib.hid he
  have HL := Lib.hid (add_err (m := m) (x := x) (by rw [he]; decide)).1
  clear he
  have HB0 := Lib.hid (Below.refl w.heap.size w)
  go_enter Try.func4, Try.ntmps4
  have KA_1 := Lib.hid (Cs.new w (w.heap.size) #[.slice aa m.length ac] 24 (by simp))
  have HB2 : Hid (Below w.heap.size w (w.alloc (.cells #[.slice aa m.length ac] 24))) := HB0.out.alloc HB0.out.size _
  clear HB0
  go_wp2_with fail
  refine (head_any _).mono ?_
  rintro e u1 ⟨rfl, b1⟩
  have KA_3 := Lib.hid (KA_1.out.step b1)
  clear KA_1
  have HB4 := Lib.hid (keep2 b1 HB2.out)
  clear HB2 b1
  have xA0 : u1.cell? ⟨w.heap.size, 0, none⟩ = some (.slice aa m.length ac) := KA_3.out.c 0 rfl
  have zA : w.heap.size < u1.heap.size := KA_3.out.2.2
  have z2A : w.heap.size < u1.heap.size + 1 := by omega
  go_wp2_with fail
  have KA_5 := Lib.hid (KA_3.out.alloc (.cells #[.slice aa m.length ac] 24))
  clear KA_3
  have HB6 : Hid (Below w.heap.size w (u1.alloc (.cells #[.slice aa m.length ac] 24))) := HB4.out.alloc HB4.out.size _
  clear HB4
  refine (few_any _ [(aa, m.length, ac)] _ (sls_one u1 aa m.length ac u1.heap.size rfl) (by simp) (by intro q hq; simp at hq; subst hq; unfold maxLen; omega)).mono ?_
  rintro e w' ⟨rfl, rfl⟩
  rw [show ([(aa, m.length, ac)] : List (Option Addr × Nat × Nat)).all (fun q => fwB q.2.1) = true from by simp only [List.all_cons, List.all_nil, FW.out]; rfl]
  clear xA0 zA z2A
  have xA0 : (u1.alloc (.cells #[.slice aa m.length ac] 24)).cell? ⟨w.heap.size, 0, none⟩ = some (.slice aa m.length ac) := KA_5.out.c 0 rfl
  have zA : w.heap.size < (u1.alloc (.cells #[.slice aa m.length ac] 24)).heap.size := KA_5.out.2.2
  have z2A : w.heap.size < (u1.alloc (.cells #[.slice aa m.length ac] 24)).heap.size + 1 := by omega
  go_wp2_with fail
  refine (add_any _ m x _ (HA.out.step HB6.out)).mono ?_
  rintro e u24 ⟨⟨um, rfl, hum⟩, b24⟩
  rw [HE.out]
  obtain ⟨ma, mc, rfl, -⟩ := row_tg hum HL.out (n := 0) rfl
  clear hum
  clear xA0 zA z2A
  have KA_7 := Lib.hid (KA_5.out.step b24)
  clear KA_5
  have HB8 := Lib.hid (keep2 b24 HB6.out)
  clear HB6 b24
  have KA_9 := Lib.hid (KA_7.out.alloc (.cells #[.slice ma 0 mc] 24))
  clear KA_7
  have KM_10 := Lib.hid (Cs.new u24 (u24.heap.size) #[.slice ma 0 mc] 24 (by simp))
  have HB11 : Hid (Below w.heap.size w (u24.alloc (.cells #[.slice ma 0 mc] 24))) := HB8.out.alloc HB8.out.size _
  clear HB8
  have xA0 : (u24.alloc (.cells #[.slice ma 0 mc] 24)).cell? ⟨w.heap.size, 0, none⟩ = some (.slice aa m.length ac) := KA_9.out.c 0 rfl
  have zA : w.heap.size < (u24.alloc (.cells #[.slice ma 0 mc] 24)).heap.size := KA_9.out.2.2
  have z2A : w.heap.size < (u24.alloc (.cells #[.slice ma 0 mc] 24)).heap.size + 1 := by omega
  have xM0 : (u24.alloc (.cells #[.slice ma 0 mc] 24)).cell? ⟨u24.heap.size, 0, none⟩ = some (.slice ma 0 mc) := KM_10.out.c 0 rfl
  have zM : u24.heap.size < (u24.alloc (.cells #[.slice ma 0 mc] 24)).heap.size := KM_10.out.2.2
  have z2M : u24.heap.size < (u24.alloc (.cells #[.slice ma 0 mc] 24)).heap.size + 1 := by omega
  go_wp2
  go_ret
  exact ⟨rfl, HB11.out⟩
set_option maxRecDepth 100000 in
set_option maxHeartbeats 4000000 in
theorem sets_e30 (va : Value) (m : List Int) (x y : Int) (w : World) (ha : TgAt w va m) (hx : -9223372036854775808 ≤ x ∧ x ≤ 9223372036854775807) (hy : -9223372036854775808 ≤ y ∧ y ≤ 9223372036854775807) (hf : fwB m.length = true) (he : mgE m [x] = 30) (h4 : m.length = 400) : Calls Try.prog 4 #[.agg #[va], .int .i64 x, .int .i64 y] w fun e w' => e = .returned (.bool true) ∧ Below w.heap.size w w' := by
  have HA := Lib.hid ha
  have HX := Lib.hid hx
  have HY := Lib.hid hy
  clear hx hy
  obtain ⟨⟨aa, ac, rfl, ham, -⟩, -⟩ := ha
  unfold maxLen at ham
  have FW := Lib.hid hf
  clear hf
  have HE := Lib.hid he
  have H4 := Lib.hid h4
  clear h4
  have HL := Lib.hid (add_err (m := m) (x := x) (by rw [he]; decide)).1
  clear he
  have HB0 := Lib.hid (Below.refl w.heap.size w)
  go_enter Try.func4, Try.ntmps4
  have KA_1 := Lib.hid (Cs.new w (w.heap.size) #[.slice aa m.length ac] 24 (by simp))
  have HB2 : Hid (Below w.heap.size w (w.alloc (.cells #[.slice aa m.length ac] 24))) := HB0.out.alloc HB0.out.size _
  clear HB0
  go_wp2_with fail
  refine (head_any _).mono ?_
  rintro e u1 ⟨rfl, b1⟩
  have KA_3 := Lib.hid (KA_1.out.step b1)
  clear KA_1
  have HB4 := Lib.hid (keep2 b1 HB2.out)
  clear HB2 b1
  have xA0 : u1.cell? ⟨w.heap.size, 0, none⟩ = some (.slice aa m.length ac) := KA_3.out.c 0 rfl
  have zA : w.heap.size < u1.heap.size := KA_3.out.2.2
  have z2A : w.heap.size < u1.heap.size + 1 := by omega
  go_wp2_with fail
  have KA_5 := Lib.hid (KA_3.out.alloc (.cells #[.slice aa m.length ac] 24))
  clear KA_3
  have HB6 : Hid (Below w.heap.size w (u1.alloc (.cells #[.slice aa m.length ac] 24))) := HB4.out.alloc HB4.out.size _
  clear HB4
  refine (few_any _ [(aa, m.length, ac)] _ (sls_one u1 aa m.length ac u1.heap.size rfl) (by simp) (by intro q hq; simp at hq; subst hq; unfold maxLen; omega)).mono ?_
  rintro e w' ⟨rfl, rfl⟩
  rw [show ([(aa, m.length, ac)] : List (Option Addr × Nat × Nat)).all (fun q => fwB q.2.1) = true from by simp only [List.all_cons, List.all_nil, FW.out]; rfl]
  clear xA0 zA z2A
  have xA0 : (u1.alloc (.cells #[.slice aa m.length ac] 24)).cell? ⟨w.heap.size, 0, none⟩ = some (.slice aa m.length ac) := KA_5.out.c 0 rfl
  have zA : w.heap.size < (u1.alloc (.cells #[.slice aa m.length ac] 24)).heap.size := KA_5.out.2.2
  have z2A : w.heap.size < (u1.alloc (.cells #[.slice aa m.length ac] 24)).heap.size + 1 := by omega
  go_wp2_with fail
  refine (add_any _ m x _ (HA.out.step HB6.out)).mono ?_
  rintro e u24 ⟨⟨um, rfl, hum⟩, b24⟩
  rw [HE.out]
  obtain ⟨ma, mc, rfl, -⟩ := row_tg hum HL.out (n := 0) rfl
  clear hum
  clear xA0 zA z2A
  have KA_7 := Lib.hid (KA_5.out.step b24)
  clear KA_5
  have HB8 := Lib.hid (keep2 b24 HB6.out)
  clear HB6 b24
  have KA_9 := Lib.hid (KA_7.out.alloc (.cells #[.slice ma 0 mc] 24))
  clear KA_7
  have KM_10 := Lib.hid (Cs.new u24 (u24.heap.size) #[.slice ma 0 mc] 24 (by simp))
  have HB11 : Hid (Below w.heap.size w (u24.alloc (.cells #[.slice ma 0 mc] 24))) := HB8.out.alloc HB8.out.size _
  clear HB8
  have xA0 : (u24.alloc (.cells #[.slice ma 0 mc] 24)).cell? ⟨w.heap.size, 0, none⟩ = some (.slice aa m.length ac) := KA_9.out.c 0 rfl
  have zA : w.heap.size < (u24.alloc (.cells #[.slice ma 0 mc] 24)).heap.size := KA_9.out.2.2
  have z2A : w.heap.size < (u24.alloc (.cells #[.slice ma 0 mc] 24)).heap.size + 1 := by omega
  have xM0 : (u24.alloc (.cells #[.slice ma 0 mc] 24)).cell? ⟨u24.heap.size, 0, none⟩ = some (.slice ma 0 mc) := KM_10.out.c 0 rfl
  have zM : u24.heap.size < (u24.alloc (.cells #[.slice ma 0 mc] 24)).heap.size := KM_10.out.2.2
  have z2M : u24.heap.size < (u24.alloc (.cells #[.slice ma 0 mc] 24)).heap.size + 1 := by omega
  have h4 := H4.out
  have n4 : (((m.length : Nat) : Int) == 400) = true := by simp; omega
  have n5 : decide (((m.length : Nat) : Int) = 400) = true := by simp; omega
  clear h4
  go_wp2
  go_ret
  exact ⟨rfl, HB11.out⟩
set_option maxRecDepth 100000 in
set_option maxHeartbeats 4000000 in
theorem sets_p (va : Value) (m : List Int) (x y : Int) (w : World) (ha : TgAt w va m) (hx : -9223372036854775808 ≤ x ∧ x ≤ 9223372036854775807) (hy : -9223372036854775808 ≤ y ∧ y ≤ 9223372036854775807) (hf : fwB m.length = true) (he : mgE m [x] = 0) (hp : hsB m y = true) : Calls Try.prog 4 #[.agg #[va], .int .i64 x, .int .i64 y] w fun e w' => e = .returned (.bool true) ∧ Below w.heap.size w w' := by
  have HA := Lib.hid ha
  have HX := Lib.hid hx
  have HY := Lib.hid hy
  clear hx hy
  obtain ⟨⟨aa, ac, rfl, ham, -⟩, -⟩ := ha
  unfold maxLen at ham
  have FW := Lib.hid hf
  clear hf
  have HE := Lib.hid he
  obtain ⟨⟨a1, a2⟩, a3, a4⟩ := add_zero he
  obtain ⟨b1, b2, b3, b4, b5⟩ := sets_zero y he
  have HL := Lib.hid a3
  have SL := Lib.hid a4
  have HE2 := Lib.hid b1
  have HL2 := Lib.hid b2
  have HH1 := Lib.hid b3
  have HP := Lib.hid hp
  have HH2 := Lib.hid (b4 hp)
  clear a1 a2 a3 a4 b1 b2 b3 b4 b5 hp
  clear he
  have HB0 := Lib.hid (Below.refl w.heap.size w)
  go_enter Try.func4, Try.ntmps4
  have KA_1 := Lib.hid (Cs.new w (w.heap.size) #[.slice aa m.length ac] 24 (by simp))
  have HB2 : Hid (Below w.heap.size w (w.alloc (.cells #[.slice aa m.length ac] 24))) := HB0.out.alloc HB0.out.size _
  clear HB0
  go_wp2_with fail
  refine (head_any _).mono ?_
  rintro e u1 ⟨rfl, b1⟩
  have KA_3 := Lib.hid (KA_1.out.step b1)
  clear KA_1
  have HB4 := Lib.hid (keep2 b1 HB2.out)
  clear HB2 b1
  have xA0 : u1.cell? ⟨w.heap.size, 0, none⟩ = some (.slice aa m.length ac) := KA_3.out.c 0 rfl
  have zA : w.heap.size < u1.heap.size := KA_3.out.2.2
  have z2A : w.heap.size < u1.heap.size + 1 := by omega
  go_wp2_with fail
  have KA_5 := Lib.hid (KA_3.out.alloc (.cells #[.slice aa m.length ac] 24))
  clear KA_3
  have HB6 : Hid (Below w.heap.size w (u1.alloc (.cells #[.slice aa m.length ac] 24))) := HB4.out.alloc HB4.out.size _
  clear HB4
  refine (few_any _ [(aa, m.length, ac)] _ (sls_one u1 aa m.length ac u1.heap.size rfl) (by simp) (by intro q hq; simp at hq; subst hq; unfold maxLen; omega)).mono ?_
  rintro e w' ⟨rfl, rfl⟩
  rw [show ([(aa, m.length, ac)] : List (Option Addr × Nat × Nat)).all (fun q => fwB q.2.1) = true from by simp only [List.all_cons, List.all_nil, FW.out]; rfl]
  clear xA0 zA z2A
  have xA0 : (u1.alloc (.cells #[.slice aa m.length ac] 24)).cell? ⟨w.heap.size, 0, none⟩ = some (.slice aa m.length ac) := KA_5.out.c 0 rfl
  have zA : w.heap.size < (u1.alloc (.cells #[.slice aa m.length ac] 24)).heap.size := KA_5.out.2.2
  have z2A : w.heap.size < (u1.alloc (.cells #[.slice aa m.length ac] 24)).heap.size + 1 := by omega
  go_wp2_with fail
  refine (add_any _ m x _ (HA.out.step HB6.out)).mono ?_
  rintro e u24 ⟨⟨um, rfl, hum⟩, b24⟩
  rw [HE.out]
  obtain ⟨ma, mc, rfl, htm⟩ := row_tg hum HL.out rfl
  have HTM := Lib.hid htm
  clear hum htm
  clear xA0 zA z2A
  have KA_7 := Lib.hid (KA_5.out.step b24)
  clear KA_5
  have HB8 := Lib.hid (keep2 b24 HB6.out)
  clear HB6 b24
  obtain ⟨L, hL⟩ : ∃ L, mg m [x] = L := ⟨_, rfl⟩
  rw [hL] at HTM SL HE2 HL2 HH1 HH2 ⊢
  clear hL HL
  replace HTM := Lib.hid (HTM.out.step (al u24 (.cells #[.slice ma L.length mc] 24)))
  have KA_9 := Lib.hid (KA_7.out.alloc (.cells #[.slice ma L.length mc] 24))
  clear KA_7
  have KM_10 := Lib.hid (Cs.new u24 (u24.heap.size) #[.slice ma L.length mc] 24 (by simp))
  have HB11 : Hid (Below w.heap.size w (u24.alloc (.cells #[.slice ma L.length mc] 24))) := HB8.out.alloc HB8.out.size _
  clear HB8
  have xM0 : (u24.alloc (.cells #[.slice ma L.length mc] 24)).cell? ⟨u24.heap.size, 0, none⟩ = some (.slice ma L.length mc) := KM_10.out.c 0 rfl
  have zM : u24.heap.size < (u24.alloc (.cells #[.slice ma L.length mc] 24)).heap.size := KM_10.out.2.2
  have z2M : u24.heap.size < (u24.alloc (.cells #[.slice ma L.length mc] 24)).heap.size + 1 := by omega
  go_wp2_with fail
  refine (add_any _ L x _ HTM.out).mono ?_
  rintro e u25 ⟨⟨un, rfl, hun⟩, b25⟩
  rw [HE2.out]
  obtain ⟨na, nc, rfl, htn⟩ := row_tg hun HL2.out rfl
  have HTN := Lib.hid htn
  clear hun htn
  replace HTM := Lib.hid (HTM.out.step b25)
  clear xM0 zM z2M
  have KA_12 := Lib.hid (KA_9.out.step b25)
  clear KA_9
  have KM_13 := Lib.hid (KM_10.out.step b25)
  clear KM_10
  have HB14 := Lib.hid (keep2 b25 HB11.out)
  clear HB11 b25
  replace HTM := Lib.hid (HTM.out.step (al u25 (.cells #[.slice na L.length nc] 24)))
  replace HTN := Lib.hid (HTN.out.step (al u25 (.cells #[.slice na L.length nc] 24)))
  have KA_15 := Lib.hid (KA_12.out.alloc (.cells #[.slice na L.length nc] 24))
  clear KA_12
  have KM_16 := Lib.hid (KM_13.out.alloc (.cells #[.slice na L.length nc] 24))
  clear KM_13
  have KO_17 := Lib.hid (Cs.new u25 (u25.heap.size) #[.slice na L.length nc] 24 (by simp))
  have HB18 : Hid (Below w.heap.size w (u25.alloc (.cells #[.slice na L.length nc] 24))) := HB14.out.alloc HB14.out.size _
  clear HB14
  go_wp2_with fail
  obtain ⟨lit, hlit⟩ : ∃ lit : (Nat → Value) → Act, lit = fun vs => { tmps := List.toArray (Value.agg #[Value.slice aa m.length ac] :: Value.int IntKind.i64 x :: Value.int IntKind.i64 y :: Value.pointer (some { block := w.heap.size, off := 0 }) :: undef :: undef :: vs 33 :: Value.bool true :: Value.pointer (some { block := u24.heap.size, off := 0 }) :: Value.int IntKind.i64 0 :: Value.pointer (some { block := u25.heap.size, off := 0 }) :: Value.int IntKind.i64 0 :: Value.bool true :: Value.agg #[Value.slice aa m.length ac] :: Value.slice (some { block := u1.heap.size, off := 0 }) 1 1 :: Value.bool true :: Value.bool false :: undef :: Value.tuple #[Value.agg #[Value.slice ma L.length mc], Value.int IntKind.i64 0] :: Value.agg #[Value.slice aa m.length ac] :: Value.int IntKind.i64 x :: Value.tuple #[Value.agg #[Value.slice ma L.length mc], Value.int IntKind.i64 0] :: Value.agg #[Value.slice ma L.length mc] :: Value.int IntKind.i64 0 :: Value.int IntKind.i64 0 :: Value.bool false :: undef :: undef :: undef :: undef :: undef :: undef :: undef :: undef :: undef :: undef :: undef :: undef :: undef :: undef :: undef :: undef :: undef :: undef :: undef :: undef :: undef :: Value.tuple #[Value.agg #[Value.slice na L.length nc], Value.int IntKind.i64 0] :: Value.agg #[Value.slice ma L.length mc] :: Value.int IntKind.i64 x :: Value.tuple #[Value.agg #[Value.slice na L.length nc], Value.int IntKind.i64 0] :: Value.agg #[Value.slice na L.length nc] :: Value.int IntKind.i64 0 :: vs 0 :: vs 1 :: vs 2 :: vs 3 :: vs 4 :: vs 5 :: vs 6 :: vs 7 :: vs 8 :: vs 9 :: vs 10 :: vs 11 :: vs 12 :: vs 13 :: vs 14 :: vs 15 :: vs 16 :: vs 17 :: vs 18 :: vs 19 :: vs 20 :: vs 21 :: vs 22 :: vs 23 :: vs 24 :: vs 25 :: vs 26 :: vs 27 :: vs 28 :: vs 29 :: vs 30 :: vs 31 :: vs 32 :: []), defers := [] } := ⟨_, rfl⟩
  have HLIT := Lib.hid hlit
  clear hlit
  obtain ⟨val, hval⟩ : ∃ val : List Value, val = [.bool true, .bool true, .agg #[.slice ma L.length mc], .bool true, .bool true, .bool true, .agg #[.slice ma L.length mc], .int .i64 x, .bool true, .bool true, .bool true, .agg #[.slice ma L.length mc], .int .i64 y, .bool true, .agg #[.slice aa m.length ac], .int .i64 y, .bool true, .bool true, undef, undef, undef, .bool true, .bool true, .bool true, .bool true, .int .i64 0, .bool true, .bool true, .bool true, .agg #[.slice ma L.length mc], .agg #[.slice na L.length nc], .bool true, .bool true, .bool true] := ⟨_, rfl⟩
  have E0 := Lib.hid (show val.getD 0 undef = .bool true by rw [hval]; rfl)
  have E1 := Lib.hid (show val.getD 1 undef = .bool true by rw [hval]; rfl)
  have E2 := Lib.hid (show val.getD 2 undef = .agg #[.slice ma L.length mc] by rw [hval]; rfl)
  have E3 := Lib.hid (show val.getD 3 undef = .bool true by rw [hval]; rfl)
  have E4 := Lib.hid (show val.getD 4 undef = .bool true by rw [hval]; rfl)
  have E5 := Lib.hid (show val.getD 5 undef = .bool true by rw [hval]; rfl)
  have E6 := Lib.hid (show val.getD 6 undef = .agg #[.slice ma L.length mc] by rw [hval]; rfl)
  have E7 := Lib.hid (show val.getD 7 undef = .int .i64 x by rw [hval]; rfl)
  have E8 := Lib.hid (show val.getD 8 undef = .bool true by rw [hval]; rfl)
  have E9 := Lib.hid (show val.getD 9 undef = .bool true by rw [hval]; rfl)
  have E10 := Lib.hid (show val.getD 10 undef = .bool true by rw [hval]; rfl)
  have E11 := Lib.hid (show val.getD 11 undef = .agg #[.slice ma L.length mc] by rw [hval]; rfl)
  have E12 := Lib.hid (show val.getD 12 undef = .int .i64 y by rw [hval]; rfl)
  have E13 := Lib.hid (show val.getD 13 undef = .bool true by rw [hval]; rfl)
  have E14 := Lib.hid (show val.getD 14 undef = .agg #[.slice aa m.length ac] by rw [hval]; rfl)
  have E15 := Lib.hid (show val.getD 15 undef = .int .i64 y by rw [hval]; rfl)
  have E16 := Lib.hid (show val.getD 16 undef = .bool true by rw [hval]; rfl)
  have E17 := Lib.hid (show val.getD 17 undef = .bool true by rw [hval]; rfl)
  have E18 := Lib.hid (show val.getD 18 undef = undef by rw [hval]; rfl)
  have E19 := Lib.hid (show val.getD 19 undef = undef by rw [hval]; rfl)
  have E20 := Lib.hid (show val.getD 20 undef = undef by rw [hval]; rfl)
  have E21 := Lib.hid (show val.getD 21 undef = .bool true by rw [hval]; rfl)
  have E22 := Lib.hid (show val.getD 22 undef = .bool true by rw [hval]; rfl)
  have E23 := Lib.hid (show val.getD 23 undef = .bool true by rw [hval]; rfl)
  have E24 := Lib.hid (show val.getD 24 undef = .bool true by rw [hval]; rfl)
  have E25 := Lib.hid (show val.getD 25 undef = .int .i64 0 by rw [hval]; rfl)
  have E26 := Lib.hid (show val.getD 26 undef = .bool true by rw [hval]; rfl)
  have E27 := Lib.hid (show val.getD 27 undef = .bool true by rw [hval]; rfl)
  have E28 := Lib.hid (show val.getD 28 undef = .bool true by rw [hval]; rfl)
  have E29 := Lib.hid (show val.getD 29 undef = .agg #[.slice ma L.length mc] by rw [hval]; rfl)
  have E30 := Lib.hid (show val.getD 30 undef = .agg #[.slice na L.length nc] by rw [hval]; rfl)
  have E31 := Lib.hid (show val.getD 31 undef = .bool true by rw [hval]; rfl)
  have E32 := Lib.hid (show val.getD 32 undef = .bool true by rw [hval]; rfl)
  have E33 := Lib.hid (show val.getD 33 undef = .bool true by rw [hval]; rfl)
  clear hval
  obtain ⟨G, hG0⟩ : ∃ G : Nat → Value → World → Prop, G = (fun i v w => (v = val.getD i undef)) := ⟨_, rfl⟩
  have HG := Lib.hid hG0
  clear hG0
  refine region_inv (RS lit (u25.alloc (.cells #[.slice na L.length nc] 24)) G) (by kernel_rfl) (by decide +kernel) ?_ ?_ ?_
  · exact ⟨fun i => ([undef, undef, undef, undef, undef, undef, undef, undef, undef, undef, undef, undef, undef, undef, undef, undef, undef, undef, undef, undef, undef, undef, undef, undef, undef, undef, undef, undef, undef, undef, undef, undef, undef, Value.bool false] : List Value).getD i undef, (by rw [HLIT.out]; rfl), below_drew _ _, fun i h => by cases h⟩
  · refine ⟨?_, ?_, ?_, ?_, ?_, ?_, ?_, ?_, ?_, ?_, ?_, ?_, ?_, ?_, ?_, ?_, ?_, ?_, ?_, ?_, ?_, ?_, ?_, ?_, ?_, ?_, ?_, ?_, ?_, ?_, ?_, ?_, ?_, ?_, trivial⟩
    · intro bf ac wv hfb haf hJ K' hK
      obtain ⟨vs, rfl, hM, j4⟩ := hJ
      replace hK := Lib.hid hK
      replace hM := Lib.hid hM
      rw [HG.out] at j4
      replace j4 := Lib.hid j4
      clear haf hfb
      rw [HLIT.out]
      go_simp
      exact hK.out _ _ (RS.next (wv := wv) (vs := vs) 0 (x := .bool true) (by rw [HLIT.out]; rfl) (by rw [HG.out]; exact j4.out) hM.out (by rw [HG.out]; exact fun _ _ h => h) (by rw [HG.out]; exact E0.out.symm))
    · intro bf ac wv hfb haf hJ K' hK
      obtain ⟨vs, rfl, hM, j4⟩ := hJ
      replace hK := Lib.hid hK
      replace hM := Lib.hid hM
      rw [HG.out] at j4
      simp [Region.binds] at haf
      have e0 := ((j4 0 (by simp [haf]))).trans E0.out
      replace j4 := Lib.hid j4
      clear haf hfb
      rw [HLIT.out]
      go_simp
      exact hK.out _ _ (RS.next (wv := wv) (vs := vs) 1 (x := .bool true) (by rw [HLIT.out]; simp only [upv, e0, Nat.reduceBEq, cond_true, cond_false]) (by rw [HG.out]; exact j4.out) hM.out (by rw [HG.out]; exact fun _ _ h => h) (by rw [HG.out]; exact E1.out.symm))
    · intro bf ac wv hfb haf hJ K' hK
      obtain ⟨vs, rfl, hM, j4⟩ := hJ
      replace hK := Lib.hid hK
      replace hM := Lib.hid hM
      rw [HG.out] at j4
      simp [Region.binds] at haf
      have e1 := ((j4 1 (by simp [haf]))).trans E1.out
      replace j4 := Lib.hid j4
      clear haf hfb
      have K1 := KM_16.out.step hM.out
      have x0 := K1.c 0 rfl
      have xz := K1.2.2
      clear K1
      rw [HLIT.out]
      go_simp
      exact hK.out _ _ (RS.next (wv := wv) (vs := vs) 2 (x := .agg #[.slice ma L.length mc]) (by rw [HLIT.out]; simp only [upv, e1, Nat.reduceBEq, cond_true, cond_false]) (by rw [HG.out]; exact j4.out) hM.out (by rw [HG.out]; exact fun _ _ h => h) (by rw [HG.out]; exact E2.out.symm))
    · intro bf ac wv hfb haf hJ K' hK
      obtain ⟨vs, rfl, hM, j4⟩ := hJ
      replace hK := Lib.hid hK
      replace hM := Lib.hid hM
      rw [HG.out] at j4
      simp [Region.binds] at haf
      have e1 := ((j4 1 (by simp [haf]))).trans E1.out
      have e2 := ((j4 2 (by simp [haf]))).trans E2.out
      replace j4 := Lib.hid j4
      clear haf hfb
      rw [HLIT.out]
      go_simp
      go_at_call 20
      refine (rvalid_any _ L _ (HTM.out.step hM.out).1).mono ?_
      rintro e w4 ⟨rfl, b4⟩
      rw [SL.out]
      exact hK.out _ _ (RS.next (wv := wv) (vs := vs) 3 (x := .bool true) (by rw [HLIT.out]; simp only [upv, e1, e2, Nat.reduceBEq, cond_true, cond_false]) (by rw [HG.out]; exact j4.out) (keep2 b4 hM.out) (by rw [HG.out]; exact fun _ _ h => h) (by rw [HG.out]; exact E3.out.symm))
    · intro bf ac wv hfb haf hJ K' hK
      obtain ⟨vs, rfl, hM, j4⟩ := hJ
      replace hK := Lib.hid hK
      replace hM := Lib.hid hM
      rw [HG.out] at j4
      simp [Region.binds] at haf
      have e1 := ((j4 1 (by simp [haf]))).trans E1.out
      have e3 := ((j4 3 (by simp [haf]))).trans E3.out
      replace j4 := Lib.hid j4
      clear haf hfb
      rw [HLIT.out]
      go_simp
      exact hK.out _ _ (RS.next (wv := wv) (vs := vs) 4 (x := .bool true) (by rw [HLIT.out]; simp only [upv, e1, e3, Nat.reduceBEq, cond_true, cond_false]) (by rw [HG.out]; exact j4.out) hM.out (by rw [HG.out]; exact fun _ _ h => h) (by rw [HG.out]; exact E4.out.symm))
    · intro bf ac wv hfb haf hJ K' hK
      obtain ⟨vs, rfl, hM, j4⟩ := hJ
      replace hK := Lib.hid hK
      replace hM := Lib.hid hM
      rw [HG.out] at j4
      simp [Region.binds] at haf
      have e4 := ((j4 4 (by simp [haf]))).trans E4.out
      replace j4 := Lib.hid j4
      clear haf hfb
      rw [HLIT.out]
      go_simp
      exact hK.out _ _ (RS.next (wv := wv) (vs := vs) 5 (x := .bool true) (by rw [HLIT.out]; simp only [upv, e4, Nat.reduceBEq, cond_true, cond_false]) (by rw [HG.out]; exact j4.out) hM.out (by rw [HG.out]; exact fun _ _ h => h) (by rw [HG.out]; exact E5.out.symm))
    · intro bf ac wv hfb haf hJ K' hK
      obtain ⟨vs, rfl, hM, j4⟩ := hJ
      replace hK := Lib.hid hK
      replace hM := Lib.hid hM
      rw [HG.out] at j4
      simp [Region.binds] at haf
      have e5 := ((j4 5 (by simp [haf]))).trans E5.out
      replace j4 := Lib.hid j4
      clear haf hfb
      have K1 := KM_16.out.step hM.out
      have x0 := K1.c 0 rfl
      have xz := K1.2.2
      clear K1
      rw [HLIT.out]
      go_simp
      exact hK.out _ _ (RS.next (wv := wv) (vs := vs) 6 (x := .agg #[.slice ma L.length mc]) (by rw [HLIT.out]; simp only [upv, e5, Nat.reduceBEq, cond_true, cond_false]) (by rw [HG.out]; exact j4.out) hM.out (by rw [HG.out]; exact fun _ _ h => h) (by rw [HG.out]; exact E6.out.symm))
    · intro bf ac wv hfb haf hJ K' hK
      obtain ⟨vs, rfl, hM, j4⟩ := hJ
      replace hK := Lib.hid hK
      replace hM := Lib.hid hM
      rw [HG.out] at j4
      simp [Region.binds] at haf
      have e5 := ((j4 5 (by simp [haf]))).trans E5.out
      replace j4 := Lib.hid j4
      clear haf hfb
      rw [HLIT.out]
      go_simp
      exact hK.out _ _ (RS.next (wv := wv) (vs := vs) 7 (x := .int .i64 x) (by rw [HLIT.out]; simp only [upv, e5, Nat.reduceBEq, cond_true, cond_false]) (by rw [HG.out]; exact j4.out) hM.out (by rw [HG.out]; exact fun _ _ h => h) (by rw [HG.out]; exact E7.out.symm))
    · intro bf ac wv hfb haf hJ K' hK
      obtain ⟨vs, rfl, hM, j4⟩ := hJ
      replace hK := Lib.hid hK
      replace hM := Lib.hid hM
      rw [HG.out] at j4
      simp [Region.binds] at haf
      have e5 := ((j4 5 (by simp [haf]))).trans E5.out
      have e6 := ((j4 6 (by simp [haf]))).trans E6.out
      have e7 := ((j4 7 (by simp [haf]))).trans E7.out
      replace j4 := Lib.hid j4
      clear haf hfb
      rw [HLIT.out]
      go_simp
      go_at_call 16
      refine (has2_any _ L x _ ((HTM.out.step hM.out)).1 HX.out).mono ?_
      rintro e w4 ⟨rfl, b4⟩
      rw [HH1.out]
      exact hK.out _ _ (RS.next (wv := wv) (vs := vs) 8 (x := .bool true) (by rw [HLIT.out]; simp only [upv, e5, e6, e7, Nat.reduceBEq, cond_true, cond_false]) (by rw [HG.out]; exact j4.out) (keep2 b4 hM.out) (by rw [HG.out]; exact fun _ _ h => h) (by rw [HG.out]; exact E8.out.symm))
    · intro bf ac wv hfb haf hJ K' hK
      obtain ⟨vs, rfl, hM, j4⟩ := hJ
      replace hK := Lib.hid hK
      replace hM := Lib.hid hM
      rw [HG.out] at j4
      simp [Region.binds] at haf
      have e5 := ((j4 5 (by simp [haf]))).trans E5.out
      have e8 := ((j4 8 (by simp [haf]))).trans E8.out
      replace j4 := Lib.hid j4
      clear haf hfb
      rw [HLIT.out]
      go_simp
      exact hK.out _ _ (RS.next (wv := wv) (vs := vs) 9 (x := .bool true) (by rw [HLIT.out]; simp only [upv, e5, e8, Nat.reduceBEq, cond_true, cond_false]) (by rw [HG.out]; exact j4.out) hM.out (by rw [HG.out]; exact fun _ _ h => h) (by rw [HG.out]; exact E9.out.symm))
    · intro bf ac wv hfb haf hJ K' hK
      obtain ⟨vs, rfl, hM, j4⟩ := hJ
      replace hK := Lib.hid hK
      replace hM := Lib.hid hM
      rw [HG.out] at j4
      simp [Region.binds] at haf
      have e9 := ((j4 9 (by simp [haf]))).trans E9.out
      replace j4 := Lib.hid j4
      clear haf hfb
      rw [HLIT.out]
      go_simp
      exact hK.out _ _ (RS.next (wv := wv) (vs := vs) 10 (x := .bool true) (by rw [HLIT.out]; simp only [upv, e9, Nat.reduceBEq, cond_true, cond_false]) (by rw [HG.out]; exact j4.out) hM.out (by rw [HG.out]; exact fun _ _ h => h) (by rw [HG.out]; exact E10.out.symm))
    · intro bf ac wv hfb haf hJ K' hK
      obtain ⟨vs, rfl, hM, j4⟩ := hJ
      replace hK := Lib.hid hK
      replace hM := Lib.hid hM
      rw [HG.out] at j4
      simp [Region.binds] at haf
      have e10 := ((j4 10 (by simp [haf]))).trans E10.out
      replace j4 := Lib.hid j4
      clear haf hfb
      have K1 := KM_16.out.step hM.out
      have x0 := K1.c 0 rfl
      have xz := K1.2.2
      clear K1
      rw [HLIT.out]
      go_simp
      exact hK.out _ _ (RS.next (wv := wv) (vs := vs) 11 (x := .agg #[.slice ma L.length mc]) (by rw [HLIT.out]; simp only [upv, e10, Nat.reduceBEq, cond_true, cond_false]) (by rw [HG.out]; exact j4.out) hM.out (by rw [HG.out]; exact fun _ _ h => h) (by rw [HG.out]; exact E11.out.symm))
    · intro bf ac wv hfb haf hJ K' hK
      obtain ⟨vs, rfl, hM, j4⟩ := hJ
      replace hK := Lib.hid hK
      replace hM := Lib.hid hM
      rw [HG.out] at j4
      simp [Region.binds] at haf
      have e10 := ((j4 10 (by simp [haf]))).trans E10.out
      replace j4 := Lib.hid j4
      clear haf hfb
      rw [HLIT.out]
      go_simp
      exact hK.out _ _ (RS.next (wv := wv) (vs := vs) 12 (x := .int .i64 y) (by rw [HLIT.out]; simp only [upv, e10, Nat.reduceBEq, cond_true, cond_false]) (by rw [HG.out]; exact j4.out) hM.out (by rw [HG.out]; exact fun _ _ h => h) (by rw [HG.out]; exact E12.out.symm))
    · intro bf ac wv hfb haf hJ K' hK
      obtain ⟨vs, rfl, hM, j4⟩ := hJ
      replace hK := Lib.hid hK
      replace hM := Lib.hid hM
      rw [HG.out] at j4
      simp [Region.binds] at haf
      have e10 := ((j4 10 (by simp [haf]))).trans E10.out
      have e11 := ((j4 11 (by simp [haf]))).trans E11.out
      have e12 := ((j4 12 (by simp [haf]))).trans E12.out
      replace j4 := Lib.hid j4
      clear haf hfb
      rw [HLIT.out]
      go_simp
      go_at_call 16
      refine (has2_any _ L y _ ((HTM.out.step hM.out)).1 HY.out).mono ?_
      rintro e w4 ⟨rfl, b4⟩
      rw [HH2.out]
      exact hK.out _ _ (RS.next (wv := wv) (vs := vs) 13 (x := .bool true) (by rw [HLIT.out]; simp only [upv, e10, e11, e12, Nat.reduceBEq, cond_true, cond_false]) (by rw [HG.out]; exact j4.out) (keep2 b4 hM.out) (by rw [HG.out]; exact fun _ _ h => h) (by rw [HG.out]; exact E13.out.symm))
    · intro bf ac wv hfb haf hJ K' hK
      obtain ⟨vs, rfl, hM, j4⟩ := hJ
      replace hK := Lib.hid hK
      replace hM := Lib.hid hM
      rw [HG.out] at j4
      simp [Region.binds] at haf
      have e10 := ((j4 10 (by simp [haf]))).trans E10.out
      replace j4 := Lib.hid j4
      clear haf hfb
      have K1 := KA_15.out.step hM.out
      have x0 := K1.c 0 rfl
      have xz := K1.2.2
      clear K1
      rw [HLIT.out]
      go_simp
      exact hK.out _ _ (RS.next (wv := wv) (vs := vs) 14 (x := .agg #[.slice aa m.length ac]) (by rw [HLIT.out]; simp only [upv, e10, Nat.reduceBEq, cond_true, cond_false]) (by rw [HG.out]; exact j4.out) hM.out (by rw [HG.out]; exact fun _ _ h => h) (by rw [HG.out]; exact E14.out.symm))
    · intro bf ac wv hfb haf hJ K' hK
      obtain ⟨vs, rfl, hM, j4⟩ := hJ
      replace hK := Lib.hid hK
      replace hM := Lib.hid hM
      rw [HG.out] at j4
      simp [Region.binds] at haf
      have e10 := ((j4 10 (by simp [haf]))).trans E10.out
      replace j4 := Lib.hid j4
      clear haf hfb
      rw [HLIT.out]
      go_simp
      exact hK.out _ _ (RS.next (wv := wv) (vs := vs) 15 (x := .int .i64 y) (by rw [HLIT.out]; simp only [upv, e10, Nat.reduceBEq, cond_true, cond_false]) (by rw [HG.out]; exact j4.out) hM.out (by rw [HG.out]; exact fun _ _ h => h) (by rw [HG.out]; exact E15.out.symm))
    · intro bf ac wv hfb haf hJ K' hK
      obtain ⟨vs, rfl, hM, j4⟩ := hJ
      replace hK := Lib.hid hK
      replace hM := Lib.hid hM
      rw [HG.out] at j4
      simp [Region.binds] at haf
      have e10 := ((j4 10 (by simp [haf]))).trans E10.out
      have e14 := ((j4 14 (by simp [haf]))).trans E14.out
      have e15 := ((j4 15 (by simp [haf]))).trans E15.out
      replace j4 := Lib.hid j4
      clear haf hfb
      rw [HLIT.out]
      go_simp
      go_at_call 16
      refine (has2_any _ m y _ (((HA.out.step HB18.out).step hM.out)).1 HY.out).mono ?_
      rintro e w4 ⟨rfl, b4⟩
      rw [HP.out]
      exact hK.out _ _ (RS.next (wv := wv) (vs := vs) 16 (x := .bool true) (by rw [HLIT.out]; simp only [upv, e10, e14, e15, Nat.reduceBEq, cond_true, cond_false]) (by rw [HG.out]; exact j4.out) (keep2 b4 hM.out) (by rw [HG.out]; exact fun _ _ h => h) (by rw [HG.out]; exact E16.out.symm))
    · intro bf ac wv hfb haf hJ K' hK
      obtain ⟨vs, rfl, hM, j4⟩ := hJ
      replace hK := Lib.hid hK
      replace hM := Lib.hid hM
      rw [HG.out] at j4
      simp [Region.binds] at haf
      have e10 := ((j4 10 (by simp [haf]))).trans E10.out
      have e16 := ((j4 16 (by simp [haf]))).trans E16.out
      replace j4 := Lib.hid j4
      clear haf hfb
      rw [HLIT.out]
      go_simp
      exact hK.out _ _ (RS.next (wv := wv) (vs := vs) 17 (x := .bool true) (by rw [HLIT.out]; simp only [upv, e10, e16, Nat.reduceBEq, cond_true, cond_false]) (by rw [HG.out]; exact j4.out) hM.out (by rw [HG.out]; exact fun _ _ h => h) (by rw [HG.out]; exact E17.out.symm))
    · intro bf ac wv hfb haf hJ K' hK
      obtain ⟨vs, rfl, hM, j4⟩ := hJ
      replace hK := Lib.hid hK
      replace hM := Lib.hid hM
      rw [HG.out] at j4
      simp [Region.binds] at haf
      have e17 := ((j4 17 (by simp [haf]))).trans E17.out
      replace j4 := Lib.hid j4
      clear haf hfb
      rw [HLIT.out]
      go_simp
      exact hK.out _ _ (RS.next (wv := wv) (vs := vs) 18 (x := undef) (by rw [HLIT.out]; simp only [upv, e17, Nat.reduceBEq, cond_true, cond_false]) (by rw [HG.out]; exact j4.out) hM.out (by rw [HG.out]; exact fun _ _ h => h) (by rw [HG.out]; exact E18.out.symm))
    · intro bf ac wv hfb haf hJ K' hK
      obtain ⟨vs, rfl, hM, j4⟩ := hJ
      replace hK := Lib.hid hK
      replace hM := Lib.hid hM
      rw [HG.out] at j4
      simp [Region.binds] at haf
      have e17 := ((j4 17 (by simp [haf]))).trans E17.out
      replace j4 := Lib.hid j4
      clear haf hfb
      rw [HLIT.out]
      go_simp
      exact hK.out _ _ (RS.next (wv := wv) (vs := vs) 19 (x := undef) (by rw [HLIT.out]; simp only [upv, e17, Nat.reduceBEq, cond_true, cond_false]) (by rw [HG.out]; exact j4.out) hM.out (by rw [HG.out]; exact fun _ _ h => h) (by rw [HG.out]; exact E19.out.symm))
    · intro bf ac wv hfb haf hJ K' hK
      obtain ⟨vs, rfl, hM, j4⟩ := hJ
      replace hK := Lib.hid hK
      replace hM := Lib.hid hM
      rw [HG.out] at j4
      simp [Region.binds] at haf
      have e17 := ((j4 17 (by simp [haf]))).trans E17.out
      replace j4 := Lib.hid j4
      clear haf hfb
      rw [HLIT.out]
      go_simp
      exact hK.out _ _ (RS.next (wv := wv) (vs := vs) 20 (x := undef) (by rw [HLIT.out]; simp only [upv, e17, Nat.reduceBEq, cond_true, cond_false]) (by rw [HG.out]; exact j4.out) hM.out (by rw [HG.out]; exact fun _ _ h => h) (by rw [HG.out]; exact E20.out.symm))
    · intro bf ac wv hfb haf hJ K' hK
      obtain ⟨vs, rfl, hM, j4⟩ := hJ
      replace hK := Lib.hid hK
      replace hM := Lib.hid hM
      rw [HG.out] at j4
      simp [Region.binds] at haf
      have e10 := ((j4 10 (by simp [haf]))).trans E10.out
      have e17 := ((j4 17 (by simp [haf]))).trans E17.out
      have e20 := ((j4 20 (by simp [haf]))).trans E20.out
      replace j4 := Lib.hid j4
      clear haf hfb
      rw [HLIT.out]
      go_simp
      exact hK.out _ _ (RS.next (wv := wv) (vs := vs) 21 (x := .bool true) (by rw [HLIT.out]; simp only [upv, e10, e17, e20, Nat.reduceBEq, cond_true, cond_false]) (by rw [HG.out]; exact j4.out) hM.out (by rw [HG.out]; exact fun _ _ h => h) (by rw [HG.out]; exact E21.out.symm))
    · intro bf ac wv hfb haf hJ K' hK
      obtain ⟨vs, rfl, hM, j4⟩ := hJ
      replace hK := Lib.hid hK
      replace hM := Lib.hid hM
      rw [HG.out] at j4
      simp [Region.binds] at haf
      have e10 := ((j4 10 (by simp [haf]))).trans E10.out
      have e13 := ((j4 13 (by simp [haf]))).trans E13.out
      have e21 := ((j4 21 (by simp [haf]))).trans E21.out
      replace j4 := Lib.hid j4
      clear haf hfb
      rw [HLIT.out]
      go_simp
      exact hK.out _ _ (RS.next (wv := wv) (vs := vs) 22 (x := .bool true) (by rw [HLIT.out]; simp only [upv, e10, e13, e21, Nat.reduceBEq, cond_true, cond_false]) (by rw [HG.out]; exact j4.out) hM.out (by rw [HG.out]; exact fun _ _ h => h) (by rw [HG.out]; exact E22.out.symm))
    · intro bf ac wv hfb haf hJ K' hK
      obtain ⟨vs, rfl, hM, j4⟩ := hJ
      replace hK := Lib.hid hK
      replace hM := Lib.hid hM
      rw [HG.out] at j4
      simp [Region.binds] at haf
      have e10 := ((j4 10 (by simp [haf]))).trans E10.out
      have e22 := ((j4 22 (by simp [haf]))).trans E22.out
      replace j4 := Lib.hid j4
      clear haf hfb
      rw [HLIT.out]
      go_simp
      exact hK.out _ _ (RS.next (wv := wv) (vs := vs) 23 (x := .bool true) (by rw [HLIT.out]; simp only [upv, e10, e22, Nat.reduceBEq, cond_true, cond_false]) (by rw [HG.out]; exact j4.out) hM.out (by rw [HG.out]; exact fun _ _ h => h) (by rw [HG.out]; exact E23.out.symm))
    · intro bf ac wv hfb haf hJ K' hK
      obtain ⟨vs, rfl, hM, j4⟩ := hJ
      replace hK := Lib.hid hK
      replace hM := Lib.hid hM
      rw [HG.out] at j4
      simp [Region.binds] at haf
      have e23 := ((j4 23 (by simp [haf]))).trans E23.out
      replace j4 := Lib.hid j4
      clear haf hfb
      rw [HLIT.out]
      go_simp
      exact hK.out _ _ (RS.next (wv := wv) (vs := vs) 24 (x := .bool true) (by rw [HLIT.out]; simp only [upv, e23, Nat.reduceBEq, cond_true, cond_false]) (by rw [HG.out]; exact j4.out) hM.out (by rw [HG.out]; exact fun _ _ h => h) (by rw [HG.out]; exact E24.out.symm))
    · intro bf ac wv hfb haf hJ K' hK
      obtain ⟨vs, rfl, hM, j4⟩ := hJ
      replace hK := Lib.hid hK
      replace hM := Lib.hid hM
      rw [HG.out] at j4
      simp [Region.binds] at haf
      have e24 := ((j4 24 (by simp [haf]))).trans E24.out
      replace j4 := Lib.hid j4
      clear haf hfb
      rw [HLIT.out]
      go_simp
      exact hK.out _ _ (RS.next (wv := wv) (vs := vs) 25 (x := .int .i64 0) (by rw [HLIT.out]; simp only [upv, e24, Nat.reduceBEq, cond_true, cond_false]) (by rw [HG.out]; exact j4.out) hM.out (by rw [HG.out]; exact fun _ _ h => h) (by rw [HG.out]; exact E25.out.symm))
    · intro bf ac wv hfb haf hJ K' hK
      obtain ⟨vs, rfl, hM, j4⟩ := hJ
      replace hK := Lib.hid hK
      replace hM := Lib.hid hM
      rw [HG.out] at j4
      simp [Region.binds] at haf
      have e24 := ((j4 24 (by simp [haf]))).trans E24.out
      have e25 := ((j4 25 (by simp [haf]))).trans E25.out
      replace j4 := Lib.hid j4
      clear haf hfb
      rw [HLIT.out]
      go_simp
      exact hK.out _ _ (RS.next (wv := wv) (vs := vs) 26 (x := .bool true) (by rw [HLIT.out]; simp only [upv, e24, e25, Nat.reduceBEq, cond_true, cond_false]) (by rw [HG.out]; exact j4.out) hM.out (by rw [HG.out]; exact fun _ _ h => h) (by rw [HG.out]; exact E26.out.symm))
    · intro bf ac wv hfb haf hJ K' hK
      obtain ⟨vs, rfl, hM, j4⟩ := hJ
      replace hK := Lib.hid hK
      replace hM := Lib.hid hM
      rw [HG.out] at j4
      simp [Region.binds] at haf
      have e24 := ((j4 24 (by simp [haf]))).trans E24.out
      have e26 := ((j4 26 (by simp [haf]))).trans E26.out
      replace j4 := Lib.hid j4
      clear haf hfb
      rw [HLIT.out]
      go_simp
      exact hK.out _ _ (RS.next (wv := wv) (vs := vs) 27 (x := .bool true) (by rw [HLIT.out]; simp only [upv, e24, e26, Nat.reduceBEq, cond_true, cond_false]) (by rw [HG.out]; exact j4.out) hM.out (by rw [HG.out]; exact fun _ _ h => h) (by rw [HG.out]; exact E27.out.symm))
    · intro bf ac wv hfb haf hJ K' hK
      obtain ⟨vs, rfl, hM, j4⟩ := hJ
      replace hK := Lib.hid hK
      replace hM := Lib.hid hM
      rw [HG.out] at j4
      simp [Region.binds] at haf
      have e27 := ((j4 27 (by simp [haf]))).trans E27.out
      replace j4 := Lib.hid j4
      clear haf hfb
      rw [HLIT.out]
      go_simp
      exact hK.out _ _ (RS.next (wv := wv) (vs := vs) 28 (x := .bool true) (by rw [HLIT.out]; simp only [upv, e27, Nat.reduceBEq, cond_true, cond_false]) (by rw [HG.out]; exact j4.out) hM.out (by rw [HG.out]; exact fun _ _ h => h) (by rw [HG.out]; exact E28.out.symm))
    · intro bf ac wv hfb haf hJ K' hK
      obtain ⟨vs, rfl, hM, j4⟩ := hJ
      replace hK := Lib.hid hK
      replace hM := Lib.hid hM
      rw [HG.out] at j4
      simp [Region.binds] at haf
      have e28 := ((j4 28 (by simp [haf]))).trans E28.out
      replace j4 := Lib.hid j4
      clear haf hfb
      have K1 := KM_16.out.step hM.out
      have x0 := K1.c 0 rfl
      have xz := K1.2.2
      clear K1
      rw [HLIT.out]
      go_simp
      exact hK.out _ _ (RS.next (wv := wv) (vs := vs) 29 (x := .agg #[.slice ma L.length mc]) (by rw [HLIT.out]; simp only [upv, e28, Nat.reduceBEq, cond_true, cond_false]) (by rw [HG.out]; exact j4.out) hM.out (by rw [HG.out]; exact fun _ _ h => h) (by rw [HG.out]; exact E29.out.symm))
    · intro bf ac wv hfb haf hJ K' hK
      obtain ⟨vs, rfl, hM, j4⟩ := hJ
      replace hK := Lib.hid hK
      replace hM := Lib.hid hM
      rw [HG.out] at j4
      simp [Region.binds] at haf
      have e28 := ((j4 28 (by simp [haf]))).trans E28.out
      replace j4 := Lib.hid j4
      clear haf hfb
      have K1 := KO_17.out.step hM.out
      have x0 := K1.c 0 rfl
      have xz := K1.2.2
      clear K1
      rw [HLIT.out]
      go_simp
      exact hK.out _ _ (RS.next (wv := wv) (vs := vs) 30 (x := .agg #[.slice na L.length nc]) (by rw [HLIT.out]; simp only [upv, e28, Nat.reduceBEq, cond_true, cond_false]) (by rw [HG.out]; exact j4.out) hM.out (by rw [HG.out]; exact fun _ _ h => h) (by rw [HG.out]; exact E30.out.symm))
    · intro bf ac wv hfb haf hJ K' hK
      obtain ⟨vs, rfl, hM, j4⟩ := hJ
      replace hK := Lib.hid hK
      replace hM := Lib.hid hM
      rw [HG.out] at j4
      simp [Region.binds] at haf
      have e28 := ((j4 28 (by simp [haf]))).trans E28.out
      have e29 := ((j4 29 (by simp [haf]))).trans E29.out
      have e30 := ((j4 30 (by simp [haf]))).trans E30.out
      replace j4 := Lib.hid j4
      clear haf hfb
      rw [HLIT.out]
      go_simp
      go_at_call 15
      refine (same_any _ _ L L _ (HTM.out.step hM.out).1 (HTN.out.step hM.out).1).mono ?_
      rintro e w4 ⟨rfl, b4⟩
      rw [decide_eq_true (rfl : L = L)]
      exact hK.out _ _ (RS.next (wv := wv) (vs := vs) 31 (x := .bool true) (by rw [HLIT.out]; simp only [upv, e28, e29, e30, Nat.reduceBEq, cond_true, cond_false]) (by rw [HG.out]; exact j4.out) (keep2 b4 hM.out) (by rw [HG.out]; exact fun _ _ h => h) (by rw [HG.out]; exact E31.out.symm))
    · intro bf ac wv hfb haf hJ K' hK
      obtain ⟨vs, rfl, hM, j4⟩ := hJ
      replace hK := Lib.hid hK
      replace hM := Lib.hid hM
      rw [HG.out] at j4
      simp [Region.binds] at haf
      have e28 := ((j4 28 (by simp [haf]))).trans E28.out
      have e31 := ((j4 31 (by simp [haf]))).trans E31.out
      replace j4 := Lib.hid j4
      clear haf hfb
      rw [HLIT.out]
      go_simp
      exact hK.out _ _ (RS.next (wv := wv) (vs := vs) 32 (x := .bool true) (by rw [HLIT.out]; simp only [upv, e28, e31, Nat.reduceBEq, cond_true, cond_false]) (by rw [HG.out]; exact j4.out) hM.out (by rw [HG.out]; exact fun _ _ h => h) (by rw [HG.out]; exact E32.out.symm))
    · intro bf ac wv hfb haf hJ K' hK
      obtain ⟨vs, rfl, hM, j4⟩ := hJ
      replace hK := Lib.hid hK
      replace hM := Lib.hid hM
      rw [HG.out] at j4
      simp [Region.binds] at haf
      have e32 := ((j4 32 (by simp [haf]))).trans E32.out
      replace j4 := Lib.hid j4
      clear haf hfb
      rw [HLIT.out]
      go_simp
      exact hK.out _ _ (RS.next (wv := wv) (vs := vs) 33 (x := .bool true) (by rw [HLIT.out]; simp only [upv, e32, Nat.reduceBEq, cond_true, cond_false]) (by rw [HG.out]; exact j4.out) hM.out (by rw [HG.out]; exact fun _ _ h => h) (by rw [HG.out]; exact E33.out.symm))
  · intro bf ac wv hall hJ
    obtain ⟨vs, rfl, hM, j4⟩ := hJ
    rw [HG.out] at j4
    have e33 := ((j4 33 (hall 33 (by decide)))).trans E33.out
    have HB9 := Lib.hid (keep2 hM HB18.out)
    clear hall j4 hM
    rw [HLIT.out]
    dsimp only
    rw [e33]
    clear e33
    go_wp2
    go_ret
    exact ⟨rfl, HB9.out⟩
set_option maxRecDepth 100000 in
set_option maxHeartbeats 4000000 in
theorem sets_q (va : Value) (m : List Int) (x y : Int) (w : World) (ha : TgAt w va m) (hx : -9223372036854775808 ≤ x ∧ x ≤ 9223372036854775807) (hy : -9223372036854775808 ≤ y ∧ y ≤ 9223372036854775807) (hf : fwB m.length = true) (he : mgE m [x] = 0) (hp : hsB m y = false) (hq : x = y) : Calls Try.prog 4 #[.agg #[va], .int .i64 x, .int .i64 y] w fun e w' => e = .returned (.bool true) ∧ Below w.heap.size w w' := by
  have HA := Lib.hid ha
  have HX := Lib.hid hx
  have HY := Lib.hid hy
  clear hx hy
  obtain ⟨⟨aa, ac, rfl, ham, -⟩, -⟩ := ha
  unfold maxLen at ham
  have FW := Lib.hid hf
  clear hf
  subst hq
  have HE := Lib.hid he
  obtain ⟨⟨a1, a2⟩, a3, a4⟩ := add_zero he
  obtain ⟨b1, b2, b3, b4, b5⟩ := sets_zero x he
  have HL := Lib.hid a3
  have SL := Lib.hid a4
  have HE2 := Lib.hid b1
  have HL2 := Lib.hid b2
  have HH1 := Lib.hid b3
  have HP := Lib.hid hp
  have HH2 := Lib.hid (show hsB (mg m [x]) x = true by rw [b5 hp]; simp)
  clear a1 a2 a3 a4 b1 b2 b3 b4 b5 hp
  clear he
  have HB0 := Lib.hid (Below.refl w.heap.size w)
  go_enter Try.func4, Try.ntmps4
  have KA_1 := Lib.hid (Cs.new w (w.heap.size) #[.slice aa m.length ac] 24 (by simp))
  have HB2 : Hid (Below w.heap.size w (w.alloc (.cells #[.slice aa m.length ac] 24))) := HB0.out.alloc HB0.out.size _
  clear HB0
  go_wp2_with fail
  refine (head_any _).mono ?_
  rintro e u1 ⟨rfl, b1⟩
  have KA_3 := Lib.hid (KA_1.out.step b1)
  clear KA_1
  have HB4 := Lib.hid (keep2 b1 HB2.out)
  clear HB2 b1
  have xA0 : u1.cell? ⟨w.heap.size, 0, none⟩ = some (.slice aa m.length ac) := KA_3.out.c 0 rfl
  have zA : w.heap.size < u1.heap.size := KA_3.out.2.2
  have z2A : w.heap.size < u1.heap.size + 1 := by omega
  go_wp2_with fail
  have KA_5 := Lib.hid (KA_3.out.alloc (.cells #[.slice aa m.length ac] 24))
  clear KA_3
  have HB6 : Hid (Below w.heap.size w (u1.alloc (.cells #[.slice aa m.length ac] 24))) := HB4.out.alloc HB4.out.size _
  clear HB4
  refine (few_any _ [(aa, m.length, ac)] _ (sls_one u1 aa m.length ac u1.heap.size rfl) (by simp) (by intro q hq; simp at hq; subst hq; unfold maxLen; omega)).mono ?_
  rintro e w' ⟨rfl, rfl⟩
  rw [show ([(aa, m.length, ac)] : List (Option Addr × Nat × Nat)).all (fun q => fwB q.2.1) = true from by simp only [List.all_cons, List.all_nil, FW.out]; rfl]
  clear xA0 zA z2A
  have xA0 : (u1.alloc (.cells #[.slice aa m.length ac] 24)).cell? ⟨w.heap.size, 0, none⟩ = some (.slice aa m.length ac) := KA_5.out.c 0 rfl
  have zA : w.heap.size < (u1.alloc (.cells #[.slice aa m.length ac] 24)).heap.size := KA_5.out.2.2
  have z2A : w.heap.size < (u1.alloc (.cells #[.slice aa m.length ac] 24)).heap.size + 1 := by omega
  go_wp2_with fail
  refine (add_any _ m x _ (HA.out.step HB6.out)).mono ?_
  rintro e u24 ⟨⟨um, rfl, hum⟩, b24⟩
  rw [HE.out]
  obtain ⟨ma, mc, rfl, htm⟩ := row_tg hum HL.out rfl
  have HTM := Lib.hid htm
  clear hum htm
  clear xA0 zA z2A
  have KA_7 := Lib.hid (KA_5.out.step b24)
  clear KA_5
  have HB8 := Lib.hid (keep2 b24 HB6.out)
  clear HB6 b24
  obtain ⟨L, hL⟩ : ∃ L, mg m [x] = L := ⟨_, rfl⟩
  rw [hL] at HTM SL HE2 HL2 HH1 HH2 ⊢
  clear hL HL
  replace HTM := Lib.hid (HTM.out.step (al u24 (.cells #[.slice ma L.length mc] 24)))
  have KA_9 := Lib.hid (KA_7.out.alloc (.cells #[.slice ma L.length mc] 24))
  clear KA_7
  have KM_10 := Lib.hid (Cs.new u24 (u24.heap.size) #[.slice ma L.length mc] 24 (by simp))
  have HB11 : Hid (Below w.heap.size w (u24.alloc (.cells #[.slice ma L.length mc] 24))) := HB8.out.alloc HB8.out.size _
  clear HB8
  have xM0 : (u24.alloc (.cells #[.slice ma L.length mc] 24)).cell? ⟨u24.heap.size, 0, none⟩ = some (.slice ma L.length mc) := KM_10.out.c 0 rfl
  have zM : u24.heap.size < (u24.alloc (.cells #[.slice ma L.length mc] 24)).heap.size := KM_10.out.2.2
  have z2M : u24.heap.size < (u24.alloc (.cells #[.slice ma L.length mc] 24)).heap.size + 1 := by omega
  go_wp2_with fail
  refine (add_any _ L x _ HTM.out).mono ?_
  rintro e u25 ⟨⟨un, rfl, hun⟩, b25⟩
  rw [HE2.out]
  obtain ⟨na, nc, rfl, htn⟩ := row_tg hun HL2.out rfl
  have HTN := Lib.hid htn
  clear hun htn
  replace HTM := Lib.hid (HTM.out.step b25)
  clear xM0 zM z2M
  have KA_12 := Lib.hid (KA_9.out.step b25)
  clear KA_9
  have KM_13 := Lib.hid (KM_10.out.step b25)
  clear KM_10
  have HB14 := Lib.hid (keep2 b25 HB11.out)
  clear HB11 b25
  replace HTM := Lib.hid (HTM.out.step (al u25 (.cells #[.slice na L.length nc] 24)))
  replace HTN := Lib.hid (HTN.out.step (al u25 (.cells #[.slice na L.length nc] 24)))
  have KA_15 := Lib.hid (KA_12.out.alloc (.cells #[.slice na L.length nc] 24))
  clear KA_12
  have KM_16 := Lib.hid (KM_13.out.alloc (.cells #[.slice na L.length nc] 24))
  clear KM_13
  have KO_17 := Lib.hid (Cs.new u25 (u25.heap.size) #[.slice na L.length nc] 24 (by simp))
  have HB18 : Hid (Below w.heap.size w (u25.alloc (.cells #[.slice na L.length nc] 24))) := HB14.out.alloc HB14.out.size _
  clear HB14
  go_wp2_with fail
  obtain ⟨lit, hlit⟩ : ∃ lit : (Nat → Value) → Act, lit = fun vs => { tmps := List.toArray (Value.agg #[Value.slice aa m.length ac] :: Value.int IntKind.i64 x :: Value.int IntKind.i64 x :: Value.pointer (some { block := w.heap.size, off := 0 }) :: undef :: undef :: vs 33 :: Value.bool true :: Value.pointer (some { block := u24.heap.size, off := 0 }) :: Value.int IntKind.i64 0 :: Value.pointer (some { block := u25.heap.size, off := 0 }) :: Value.int IntKind.i64 0 :: Value.bool true :: Value.agg #[Value.slice aa m.length ac] :: Value.slice (some { block := u1.heap.size, off := 0 }) 1 1 :: Value.bool true :: Value.bool false :: undef :: Value.tuple #[Value.agg #[Value.slice ma L.length mc], Value.int IntKind.i64 0] :: Value.agg #[Value.slice aa m.length ac] :: Value.int IntKind.i64 x :: Value.tuple #[Value.agg #[Value.slice ma L.length mc], Value.int IntKind.i64 0] :: Value.agg #[Value.slice ma L.length mc] :: Value.int IntKind.i64 0 :: Value.int IntKind.i64 0 :: Value.bool false :: undef :: undef :: undef :: undef :: undef :: undef :: undef :: undef :: undef :: undef :: undef :: undef :: undef :: undef :: undef :: undef :: undef :: undef :: undef :: undef :: undef :: Value.tuple #[Value.agg #[Value.slice na L.length nc], Value.int IntKind.i64 0] :: Value.agg #[Value.slice ma L.length mc] :: Value.int IntKind.i64 x :: Value.tuple #[Value.agg #[Value.slice na L.length nc], Value.int IntKind.i64 0] :: Value.agg #[Value.slice na L.length nc] :: Value.int IntKind.i64 0 :: vs 0 :: vs 1 :: vs 2 :: vs 3 :: vs 4 :: vs 5 :: vs 6 :: vs 7 :: vs 8 :: vs 9 :: vs 10 :: vs 11 :: vs 12 :: vs 13 :: vs 14 :: vs 15 :: vs 16 :: vs 17 :: vs 18 :: vs 19 :: vs 20 :: vs 21 :: vs 22 :: vs 23 :: vs 24 :: vs 25 :: vs 26 :: vs 27 :: vs 28 :: vs 29 :: vs 30 :: vs 31 :: vs 32 :: []), defers := [] } := ⟨_, rfl⟩
  have HLIT := Lib.hid hlit
  clear hlit
  obtain ⟨val, hval⟩ : ∃ val : List Value, val = [.bool true, .bool true, .agg #[.slice ma L.length mc], .bool true, .bool true, .bool true, .agg #[.slice ma L.length mc], .int .i64 x, .bool true, .bool true, .bool true, .agg #[.slice ma L.length mc], .int .i64 x, .bool true, .agg #[.slice aa m.length ac], .int .i64 x, .bool false, .bool false, .int .i64 x, .int .i64 x, .bool true, .bool true, .bool true, .bool true, .bool true, .int .i64 0, .bool true, .bool true, .bool true, .agg #[.slice ma L.length mc], .agg #[.slice na L.length nc], .bool true, .bool true, .bool true] := ⟨_, rfl⟩
  have E0 := Lib.hid (show val.getD 0 undef = .bool true by rw [hval]; rfl)
  have E1 := Lib.hid (show val.getD 1 undef = .bool true by rw [hval]; rfl)
  have E2 := Lib.hid (show val.getD 2 undef = .agg #[.slice ma L.length mc] by rw [hval]; rfl)
  have E3 := Lib.hid (show val.getD 3 undef = .bool true by rw [hval]; rfl)
  have E4 := Lib.hid (show val.getD 4 undef = .bool true by rw [hval]; rfl)
  have E5 := Lib.hid (show val.getD 5 undef = .bool true by rw [hval]; rfl)
  have E6 := Lib.hid (show val.getD 6 undef = .agg #[.slice ma L.length mc] by rw [hval]; rfl)
  have E7 := Lib.hid (show val.getD 7 undef = .int .i64 x by rw [hval]; rfl)
  have E8 := Lib.hid (show val.getD 8 undef = .bool true by rw [hval]; rfl)
  have E9 := Lib.hid (show val.getD 9 undef = .bool true by rw [hval]; rfl)
  have E10 := Lib.hid (show val.getD 10 undef = .bool true by rw [hval]; rfl)
  have E11 := Lib.hid (show val.getD 11 undef = .agg #[.slice ma L.length mc] by rw [hval]; rfl)
  have E12 := Lib.hid (show val.getD 12 undef = .int .i64 x by rw [hval]; rfl)
  have E13 := Lib.hid (show val.getD 13 undef = .bool true by rw [hval]; rfl)
  have E14 := Lib.hid (show val.getD 14 undef = .agg #[.slice aa m.length ac] by rw [hval]; rfl)
  have E15 := Lib.hid (show val.getD 15 undef = .int .i64 x by rw [hval]; rfl)
  have E16 := Lib.hid (show val.getD 16 undef = .bool false by rw [hval]; rfl)
  have E17 := Lib.hid (show val.getD 17 undef = .bool false by rw [hval]; rfl)
  have E18 := Lib.hid (show val.getD 18 undef = .int .i64 x by rw [hval]; rfl)
  have E19 := Lib.hid (show val.getD 19 undef = .int .i64 x by rw [hval]; rfl)
  have E20 := Lib.hid (show val.getD 20 undef = .bool true by rw [hval]; rfl)
  have E21 := Lib.hid (show val.getD 21 undef = .bool true by rw [hval]; rfl)
  have E22 := Lib.hid (show val.getD 22 undef = .bool true by rw [hval]; rfl)
  have E23 := Lib.hid (show val.getD 23 undef = .bool true by rw [hval]; rfl)
  have E24 := Lib.hid (show val.getD 24 undef = .bool true by rw [hval]; rfl)
  have E25 := Lib.hid (show val.getD 25 undef = .int .i64 0 by rw [hval]; rfl)
  have E26 := Lib.hid (show val.getD 26 undef = .bool true by rw [hval]; rfl)
  have E27 := Lib.hid (show val.getD 27 undef = .bool true by rw [hval]; rfl)
  have E28 := Lib.hid (show val.getD 28 undef = .bool true by rw [hval]; rfl)
  have E29 := Lib.hid (show val.getD 29 undef = .agg #[.slice ma L.length mc] by rw [hval]; rfl)
  have E30 := Lib.hid (show val.getD 30 undef = .agg #[.slice na L.length nc] by rw [hval]; rfl)
  have E31 := Lib.hid (show val.getD 31 undef = .bool true by rw [hval]; rfl)
  have E32 := Lib.hid (show val.getD 32 undef = .bool true by rw [hval]; rfl)
  have E33 := Lib.hid (show val.getD 33 undef = .bool true by rw [hval]; rfl)
  clear hval
  obtain ⟨G, hG0⟩ : ∃ G : Nat → Value → World → Prop, G = (fun i v w => (v = val.getD i undef)) := ⟨_, rfl⟩
  have HG := Lib.hid hG0
  clear hG0
  refine region_inv (RS lit (u25.alloc (.cells #[.slice na L.length nc] 24)) G) (by kernel_rfl) (by decide +kernel) ?_ ?_ ?_
  · exact ⟨fun i => ([undef, undef, undef, undef, undef, undef, undef, undef, undef, undef, undef, undef, undef, undef, undef, undef, undef, undef, undef, undef, undef, undef, undef, undef, undef, undef, undef, undef, undef, undef, undef, undef, undef, Value.bool false] : List Value).getD i undef, (by rw [HLIT.out]; rfl), below_drew _ _, fun i h => by cases h⟩
  · refine ⟨?_, ?_, ?_, ?_, ?_, ?_, ?_, ?_, ?_, ?_, ?_, ?_, ?_, ?_, ?_, ?_, ?_, ?_, ?_, ?_, ?_, ?_, ?_, ?_, ?_, ?_, ?_, ?_, ?_, ?_, ?_, ?_, ?_, ?_, trivial⟩
    · intro bf ac wv hfb haf hJ K' hK
      obtain ⟨vs, rfl, hM, j4⟩ := hJ
      replace hK := Lib.hid hK
      replace hM := Lib.hid hM
      rw [HG.out] at j4
      replace j4 := Lib.hid j4
      clear haf hfb
      rw [HLIT.out]
      go_simp
      exact hK.out _ _ (RS.next (wv := wv) (vs := vs) 0 (x := .bool true) (by rw [HLIT.out]; rfl) (by rw [HG.out]; exact j4.out) hM.out (by rw [HG.out]; exact fun _ _ h => h) (by rw [HG.out]; exact E0.out.symm))
    · intro bf ac wv hfb haf hJ K' hK
      obtain ⟨vs, rfl, hM, j4⟩ := hJ
      replace hK := Lib.hid hK
      replace hM := Lib.hid hM
      rw [HG.out] at j4
      simp [Region.binds] at haf
      have e0 := ((j4 0 (by simp [haf]))).trans E0.out
      replace j4 := Lib.hid j4
      clear haf hfb
      rw [HLIT.out]
      go_simp
      exact hK.out _ _ (RS.next (wv := wv) (vs := vs) 1 (x := .bool true) (by rw [HLIT.out]; simp only [upv, e0, Nat.reduceBEq, cond_true, cond_false]) (by rw [HG.out]; exact j4.out) hM.out (by rw [HG.out]; exact fun _ _ h => h) (by rw [HG.out]; exact E1.out.symm))
    · intro bf ac wv hfb haf hJ K' hK
      obtain ⟨vs, rfl, hM, j4⟩ := hJ
      replace hK := Lib.hid hK
      replace hM := Lib.hid hM
      rw [HG.out] at j4
      simp [Region.binds] at haf
      have e1 := ((j4 1 (by simp [haf]))).trans E1.out
      replace j4 := Lib.hid j4
      clear haf hfb
      have K1 := KM_16.out.step hM.out
      have x0 := K1.c 0 rfl
      have xz := K1.2.2
      clear K1
      rw [HLIT.out]
      go_simp
      exact hK.out _ _ (RS.next (wv := wv) (vs := vs) 2 (x := .agg #[.slice ma L.length mc]) (by rw [HLIT.out]; simp only [upv, e1, Nat.reduceBEq, cond_true, cond_false]) (by rw [HG.out]; exact j4.out) hM.out (by rw [HG.out]; exact fun _ _ h => h) (by rw [HG.out]; exact E2.out.symm))
    · intro bf ac wv hfb haf hJ K' hK
      obtain ⟨vs, rfl, hM, j4⟩ := hJ
      replace hK := Lib.hid hK
      replace hM := Lib.hid hM
      rw [HG.out] at j4
      simp [Region.binds] at haf
      have e1 := ((j4 1 (by simp [haf]))).trans E1.out
      have e2 := ((j4 2 (by simp [haf]))).trans E2.out
      replace j4 := Lib.hid j4
      clear haf hfb
      rw [HLIT.out]
      go_simp
      go_at_call 20
      refine (rvalid_any _ L _ (HTM.out.step hM.out).1).mono ?_
      rintro e w4 ⟨rfl, b4⟩
      rw [SL.out]
      exact hK.out _ _ (RS.next (wv := wv) (vs := vs) 3 (x := .bool true) (by rw [HLIT.out]; simp only [upv, e1, e2, Nat.reduceBEq, cond_true, cond_false]) (by rw [HG.out]; exact j4.out) (keep2 b4 hM.out) (by rw [HG.out]; exact fun _ _ h => h) (by rw [HG.out]; exact E3.out.symm))
    · intro bf ac wv hfb haf hJ K' hK
      obtain ⟨vs, rfl, hM, j4⟩ := hJ
      replace hK := Lib.hid hK
      replace hM := Lib.hid hM
      rw [HG.out] at j4
      simp [Region.binds] at haf
      have e1 := ((j4 1 (by simp [haf]))).trans E1.out
      have e3 := ((j4 3 (by simp [haf]))).trans E3.out
      replace j4 := Lib.hid j4
      clear haf hfb
      rw [HLIT.out]
      go_simp
      exact hK.out _ _ (RS.next (wv := wv) (vs := vs) 4 (x := .bool true) (by rw [HLIT.out]; simp only [upv, e1, e3, Nat.reduceBEq, cond_true, cond_false]) (by rw [HG.out]; exact j4.out) hM.out (by rw [HG.out]; exact fun _ _ h => h) (by rw [HG.out]; exact E4.out.symm))
    · intro bf ac wv hfb haf hJ K' hK
      obtain ⟨vs, rfl, hM, j4⟩ := hJ
      replace hK := Lib.hid hK
      replace hM := Lib.hid hM
      rw [HG.out] at j4
      simp [Region.binds] at haf
      have e4 := ((j4 4 (by simp [haf]))).trans E4.out
      replace j4 := Lib.hid j4
      clear haf hfb
      rw [HLIT.out]
      go_simp
      exact hK.out _ _ (RS.next (wv := wv) (vs := vs) 5 (x := .bool true) (by rw [HLIT.out]; simp only [upv, e4, Nat.reduceBEq, cond_true, cond_false]) (by rw [HG.out]; exact j4.out) hM.out (by rw [HG.out]; exact fun _ _ h => h) (by rw [HG.out]; exact E5.out.symm))
    · intro bf ac wv hfb haf hJ K' hK
      obtain ⟨vs, rfl, hM, j4⟩ := hJ
      replace hK := Lib.hid hK
      replace hM := Lib.hid hM
      rw [HG.out] at j4
      simp [Region.binds] at haf
      have e5 := ((j4 5 (by simp [haf]))).trans E5.out
      replace j4 := Lib.hid j4
      clear haf hfb
      have K1 := KM_16.out.step hM.out
      have x0 := K1.c 0 rfl
      have xz := K1.2.2
      clear K1
      rw [HLIT.out]
      go_simp
      exact hK.out _ _ (RS.next (wv := wv) (vs := vs) 6 (x := .agg #[.slice ma L.length mc]) (by rw [HLIT.out]; simp only [upv, e5, Nat.reduceBEq, cond_true, cond_false]) (by rw [HG.out]; exact j4.out) hM.out (by rw [HG.out]; exact fun _ _ h => h) (by rw [HG.out]; exact E6.out.symm))
    · intro bf ac wv hfb haf hJ K' hK
      obtain ⟨vs, rfl, hM, j4⟩ := hJ
      replace hK := Lib.hid hK
      replace hM := Lib.hid hM
      rw [HG.out] at j4
      simp [Region.binds] at haf
      have e5 := ((j4 5 (by simp [haf]))).trans E5.out
      replace j4 := Lib.hid j4
      clear haf hfb
      rw [HLIT.out]
      go_simp
      exact hK.out _ _ (RS.next (wv := wv) (vs := vs) 7 (x := .int .i64 x) (by rw [HLIT.out]; simp only [upv, e5, Nat.reduceBEq, cond_true, cond_false]) (by rw [HG.out]; exact j4.out) hM.out (by rw [HG.out]; exact fun _ _ h => h) (by rw [HG.out]; exact E7.out.symm))
    · intro bf ac wv hfb haf hJ K' hK
      obtain ⟨vs, rfl, hM, j4⟩ := hJ
      replace hK := Lib.hid hK
      replace hM := Lib.hid hM
      rw [HG.out] at j4
      simp [Region.binds] at haf
      have e5 := ((j4 5 (by simp [haf]))).trans E5.out
      have e6 := ((j4 6 (by simp [haf]))).trans E6.out
      have e7 := ((j4 7 (by simp [haf]))).trans E7.out
      replace j4 := Lib.hid j4
      clear haf hfb
      rw [HLIT.out]
      go_simp
      go_at_call 16
      refine (has2_any _ L x _ ((HTM.out.step hM.out)).1 HX.out).mono ?_
      rintro e w4 ⟨rfl, b4⟩
      rw [HH1.out]
      exact hK.out _ _ (RS.next (wv := wv) (vs := vs) 8 (x := .bool true) (by rw [HLIT.out]; simp only [upv, e5, e6, e7, Nat.reduceBEq, cond_true, cond_false]) (by rw [HG.out]; exact j4.out) (keep2 b4 hM.out) (by rw [HG.out]; exact fun _ _ h => h) (by rw [HG.out]; exact E8.out.symm))
    · intro bf ac wv hfb haf hJ K' hK
      obtain ⟨vs, rfl, hM, j4⟩ := hJ
      replace hK := Lib.hid hK
      replace hM := Lib.hid hM
      rw [HG.out] at j4
      simp [Region.binds] at haf
      have e5 := ((j4 5 (by simp [haf]))).trans E5.out
      have e8 := ((j4 8 (by simp [haf]))).trans E8.out
      replace j4 := Lib.hid j4
      clear haf hfb
      rw [HLIT.out]
      go_simp
      exact hK.out _ _ (RS.next (wv := wv) (vs := vs) 9 (x := .bool true) (by rw [HLIT.out]; simp only [upv, e5, e8, Nat.reduceBEq, cond_true, cond_false]) (by rw [HG.out]; exact j4.out) hM.out (by rw [HG.out]; exact fun _ _ h => h) (by rw [HG.out]; exact E9.out.symm))
    · intro bf ac wv hfb haf hJ K' hK
      obtain ⟨vs, rfl, hM, j4⟩ := hJ
      replace hK := Lib.hid hK
      replace hM := Lib.hid hM
      rw [HG.out] at j4
      simp [Region.binds] at haf
      have e9 := ((j4 9 (by simp [haf]))).trans E9.out
      replace j4 := Lib.hid j4
      clear haf hfb
      rw [HLIT.out]
      go_simp
      exact hK.out _ _ (RS.next (wv := wv) (vs := vs) 10 (x := .bool true) (by rw [HLIT.out]; simp only [upv, e9, Nat.reduceBEq, cond_true, cond_false]) (by rw [HG.out]; exact j4.out) hM.out (by rw [HG.out]; exact fun _ _ h => h) (by rw [HG.out]; exact E10.out.symm))
    · intro bf ac wv hfb haf hJ K' hK
      obtain ⟨vs, rfl, hM, j4⟩ := hJ
      replace hK := Lib.hid hK
      replace hM := Lib.hid hM
      rw [HG.out] at j4
      simp [Region.binds] at haf
      have e10 := ((j4 10 (by simp [haf]))).trans E10.out
      replace j4 := Lib.hid j4
      clear haf hfb
      have K1 := KM_16.out.step hM.out
      have x0 := K1.c 0 rfl
      have xz := K1.2.2
      clear K1
      rw [HLIT.out]
      go_simp
      exact hK.out _ _ (RS.next (wv := wv) (vs := vs) 11 (x := .agg #[.slice ma L.length mc]) (by rw [HLIT.out]; simp only [upv, e10, Nat.reduceBEq, cond_true, cond_false]) (by rw [HG.out]; exact j4.out) hM.out (by rw [HG.out]; exact fun _ _ h => h) (by rw [HG.out]; exact E11.out.symm))
    · intro bf ac wv hfb haf hJ K' hK
      obtain ⟨vs, rfl, hM, j4⟩ := hJ
      replace hK := Lib.hid hK
      replace hM := Lib.hid hM
      rw [HG.out] at j4
      simp [Region.binds] at haf
      have e10 := ((j4 10 (by simp [haf]))).trans E10.out
      replace j4 := Lib.hid j4
      clear haf hfb
      rw [HLIT.out]
      go_simp
      exact hK.out _ _ (RS.next (wv := wv) (vs := vs) 12 (x := .int .i64 x) (by rw [HLIT.out]; simp only [upv, e10, Nat.reduceBEq, cond_true, cond_false]) (by rw [HG.out]; exact j4.out) hM.out (by rw [HG.out]; exact fun _ _ h => h) (by rw [HG.out]; exact E12.out.symm))
    · intro bf ac wv hfb haf hJ K' hK
      obtain ⟨vs, rfl, hM, j4⟩ := hJ
      replace hK := Lib.hid hK
      replace hM := Lib.hid hM
      rw [HG.out] at j4
      simp [Region.binds] at haf
      have e10 := ((j4 10 (by simp [haf]))).trans E10.out
      have e11 := ((j4 11 (by simp [haf]))).trans E11.out
      have e12 := ((j4 12 (by simp [haf]))).trans E12.out
      replace j4 := Lib.hid j4
      clear haf hfb
      rw [HLIT.out]
      go_simp
      go_at_call 16
      refine (has2_any _ L x _ ((HTM.out.step hM.out)).1 HX.out).mono ?_
      rintro e w4 ⟨rfl, b4⟩
      rw [HH2.out]
      exact hK.out _ _ (RS.next (wv := wv) (vs := vs) 13 (x := .bool true) (by rw [HLIT.out]; simp only [upv, e10, e11, e12, Nat.reduceBEq, cond_true, cond_false]) (by rw [HG.out]; exact j4.out) (keep2 b4 hM.out) (by rw [HG.out]; exact fun _ _ h => h) (by rw [HG.out]; exact E13.out.symm))
    · intro bf ac wv hfb haf hJ K' hK
      obtain ⟨vs, rfl, hM, j4⟩ := hJ
      replace hK := Lib.hid hK
      replace hM := Lib.hid hM
      rw [HG.out] at j4
      simp [Region.binds] at haf
      have e10 := ((j4 10 (by simp [haf]))).trans E10.out
      replace j4 := Lib.hid j4
      clear haf hfb
      have K1 := KA_15.out.step hM.out
      have x0 := K1.c 0 rfl
      have xz := K1.2.2
      clear K1
      rw [HLIT.out]
      go_simp
      exact hK.out _ _ (RS.next (wv := wv) (vs := vs) 14 (x := .agg #[.slice aa m.length ac]) (by rw [HLIT.out]; simp only [upv, e10, Nat.reduceBEq, cond_true, cond_false]) (by rw [HG.out]; exact j4.out) hM.out (by rw [HG.out]; exact fun _ _ h => h) (by rw [HG.out]; exact E14.out.symm))
    · intro bf ac wv hfb haf hJ K' hK
      obtain ⟨vs, rfl, hM, j4⟩ := hJ
      replace hK := Lib.hid hK
      replace hM := Lib.hid hM
      rw [HG.out] at j4
      simp [Region.binds] at haf
      have e10 := ((j4 10 (by simp [haf]))).trans E10.out
      replace j4 := Lib.hid j4
      clear haf hfb
      rw [HLIT.out]
      go_simp
      exact hK.out _ _ (RS.next (wv := wv) (vs := vs) 15 (x := .int .i64 x) (by rw [HLIT.out]; simp only [upv, e10, Nat.reduceBEq, cond_true, cond_false]) (by rw [HG.out]; exact j4.out) hM.out (by rw [HG.out]; exact fun _ _ h => h) (by rw [HG.out]; exact E15.out.symm))
    · intro bf ac wv hfb haf hJ K' hK
      obtain ⟨vs, rfl, hM, j4⟩ := hJ
      replace hK := Lib.hid hK
      replace hM := Lib.hid hM
      rw [HG.out] at j4
      simp [Region.binds] at haf
      have e10 := ((j4 10 (by simp [haf]))).trans E10.out
      have e14 := ((j4 14 (by simp [haf]))).trans E14.out
      have e15 := ((j4 15 (by simp [haf]))).trans E15.out
      replace j4 := Lib.hid j4
      clear haf hfb
      rw [HLIT.out]
      go_simp
      go_at_call 16
      refine (has2_any _ m x _ (((HA.out.step HB18.out).step hM.out)).1 HX.out).mono ?_
      rintro e w4 ⟨rfl, b4⟩
      rw [HP.out]
      exact hK.out _ _ (RS.next (wv := wv) (vs := vs) 16 (x := .bool false) (by rw [HLIT.out]; simp only [upv, e10, e14, e15, Nat.reduceBEq, cond_true, cond_false]) (by rw [HG.out]; exact j4.out) (keep2 b4 hM.out) (by rw [HG.out]; exact fun _ _ h => h) (by rw [HG.out]; exact E16.out.symm))
    · intro bf ac wv hfb haf hJ K' hK
      obtain ⟨vs, rfl, hM, j4⟩ := hJ
      replace hK := Lib.hid hK
      replace hM := Lib.hid hM
      rw [HG.out] at j4
      simp [Region.binds] at haf
      have e10 := ((j4 10 (by simp [haf]))).trans E10.out
      have e16 := ((j4 16 (by simp [haf]))).trans E16.out
      replace j4 := Lib.hid j4
      clear haf hfb
      rw [HLIT.out]
      go_simp
      exact hK.out _ _ (RS.next (wv := wv) (vs := vs) 17 (x := .bool false) (by rw [HLIT.out]; simp only [upv, e10, e16, Nat.reduceBEq, cond_true, cond_false]) (by rw [HG.out]; exact j4.out) hM.out (by rw [HG.out]; exact fun _ _ h => h) (by rw [HG.out]; exact E17.out.symm))
    · intro bf ac wv hfb haf hJ K' hK
      obtain ⟨vs, rfl, hM, j4⟩ := hJ
      replace hK := Lib.hid hK
      replace hM := Lib.hid hM
      rw [HG.out] at j4
      simp [Region.binds] at haf
      have e17 := ((j4 17 (by simp [haf]))).trans E17.out
      replace j4 := Lib.hid j4
      clear haf hfb
      rw [HLIT.out]
      go_simp
      exact hK.out _ _ (RS.next (wv := wv) (vs := vs) 18 (x := .int .i64 x) (by rw [HLIT.out]; simp only [upv, e17, Nat.reduceBEq, cond_true, cond_false]) (by rw [HG.out]; exact j4.out) hM.out (by rw [HG.out]; exact fun _ _ h => h) (by rw [HG.out]; exact E18.out.symm))
    · intro bf ac wv hfb haf hJ K' hK
      obtain ⟨vs, rfl, hM, j4⟩ := hJ
      replace hK := Lib.hid hK
      replace hM := Lib.hid hM
      rw [HG.out] at j4
      simp [Region.binds] at haf
      have e17 := ((j4 17 (by simp [haf]))).trans E17.out
      replace j4 := Lib.hid j4
      clear haf hfb
      rw [HLIT.out]
      go_simp
      exact hK.out _ _ (RS.next (wv := wv) (vs := vs) 19 (x := .int .i64 x) (by rw [HLIT.out]; simp only [upv, e17, Nat.reduceBEq, cond_true, cond_false]) (by rw [HG.out]; exact j4.out) hM.out (by rw [HG.out]; exact fun _ _ h => h) (by rw [HG.out]; exact E19.out.symm))
    · intro bf ac wv hfb haf hJ K' hK
      obtain ⟨vs, rfl, hM, j4⟩ := hJ
      replace hK := Lib.hid hK
      replace hM := Lib.hid hM
      rw [HG.out] at j4
      simp [Region.binds] at haf
      have e17 := ((j4 17 (by simp [haf]))).trans E17.out
      have e18 := ((j4 18 (by simp [haf]))).trans E18.out
      have e19 := ((j4 19 (by simp [haf]))).trans E19.out
      replace j4 := Lib.hid j4
      clear haf hfb
      rw [HLIT.out]
      go_simp
      exact hK.out _ _ (RS.next (wv := wv) (vs := vs) 20 (x := .bool true) (by rw [HLIT.out]; simp only [upv, e17, e18, e19, Nat.reduceBEq, cond_true, cond_false]) (by rw [HG.out]; exact j4.out) hM.out (by rw [HG.out]; exact fun _ _ h => h) (by rw [HG.out]; exact E20.out.symm))
    · intro bf ac wv hfb haf hJ K' hK
      obtain ⟨vs, rfl, hM, j4⟩ := hJ
      replace hK := Lib.hid hK
      replace hM := Lib.hid hM
      rw [HG.out] at j4
      simp [Region.binds] at haf
      have e10 := ((j4 10 (by simp [haf]))).trans E10.out
      have e17 := ((j4 17 (by simp [haf]))).trans E17.out
      have e20 := ((j4 20 (by simp [haf]))).trans E20.out
      replace j4 := Lib.hid j4
      clear haf hfb
      rw [HLIT.out]
      go_simp
      exact hK.out _ _ (RS.next (wv := wv) (vs := vs) 21 (x := .bool true) (by rw [HLIT.out]; simp only [upv, e10, e17, e20, Nat.reduceBEq, cond_true, cond_false]) (by rw [HG.out]; exact j4.out) hM.out (by rw [HG.out]; exact fun _ _ h => h) (by rw [HG.out]; exact E21.out.symm))
    · intro bf ac wv hfb haf hJ K' hK
      obtain ⟨vs, rfl, hM, j4⟩ := hJ
      replace hK := Lib.hid hK
      replace hM := Lib.hid hM
      rw [HG.out] at j4
      simp [Region.binds] at haf
      have e10 := ((j4 10 (by simp [haf]))).trans E10.out
      have e13 := ((j4 13 (by simp [haf]))).trans E13.out
      have e21 := ((j4 21 (by simp [haf]))).trans E21.out
      replace j4 := Lib.hid j4
      clear haf hfb
      rw [HLIT.out]
      go_simp
      exact hK.out _ _ (RS.next (wv := wv) (vs := vs) 22 (x := .bool true) (by rw [HLIT.out]; simp only [upv, e10, e13, e21, Nat.reduceBEq, cond_true, cond_false]) (by rw [HG.out]; exact j4.out) hM.out (by rw [HG.out]; exact fun _ _ h => h) (by rw [HG.out]; exact E22.out.symm))
    · intro bf ac wv hfb haf hJ K' hK
      obtain ⟨vs, rfl, hM, j4⟩ := hJ
      replace hK := Lib.hid hK
      replace hM := Lib.hid hM
      rw [HG.out] at j4
      simp [Region.binds] at haf
      have e10 := ((j4 10 (by simp [haf]))).trans E10.out
      have e22 := ((j4 22 (by simp [haf]))).trans E22.out
      replace j4 := Lib.hid j4
      clear haf hfb
      rw [HLIT.out]
      go_simp
      exact hK.out _ _ (RS.next (wv := wv) (vs := vs) 23 (x := .bool true) (by rw [HLIT.out]; simp only [upv, e10, e22, Nat.reduceBEq, cond_true, cond_false]) (by rw [HG.out]; exact j4.out) hM.out (by rw [HG.out]; exact fun _ _ h => h) (by rw [HG.out]; exact E23.out.symm))
    · intro bf ac wv hfb haf hJ K' hK
      obtain ⟨vs, rfl, hM, j4⟩ := hJ
      replace hK := Lib.hid hK
      replace hM := Lib.hid hM
      rw [HG.out] at j4
      simp [Region.binds] at haf
      have e23 := ((j4 23 (by simp [haf]))).trans E23.out
      replace j4 := Lib.hid j4
      clear haf hfb
      rw [HLIT.out]
      go_simp
      exact hK.out _ _ (RS.next (wv := wv) (vs := vs) 24 (x := .bool true) (by rw [HLIT.out]; simp only [upv, e23, Nat.reduceBEq, cond_true, cond_false]) (by rw [HG.out]; exact j4.out) hM.out (by rw [HG.out]; exact fun _ _ h => h) (by rw [HG.out]; exact E24.out.symm))
    · intro bf ac wv hfb haf hJ K' hK
      obtain ⟨vs, rfl, hM, j4⟩ := hJ
      replace hK := Lib.hid hK
      replace hM := Lib.hid hM
      rw [HG.out] at j4
      simp [Region.binds] at haf
      have e24 := ((j4 24 (by simp [haf]))).trans E24.out
      replace j4 := Lib.hid j4
      clear haf hfb
      rw [HLIT.out]
      go_simp
      exact hK.out _ _ (RS.next (wv := wv) (vs := vs) 25 (x := .int .i64 0) (by rw [HLIT.out]; simp only [upv, e24, Nat.reduceBEq, cond_true, cond_false]) (by rw [HG.out]; exact j4.out) hM.out (by rw [HG.out]; exact fun _ _ h => h) (by rw [HG.out]; exact E25.out.symm))
    · intro bf ac wv hfb haf hJ K' hK
      obtain ⟨vs, rfl, hM, j4⟩ := hJ
      replace hK := Lib.hid hK
      replace hM := Lib.hid hM
      rw [HG.out] at j4
      simp [Region.binds] at haf
      have e24 := ((j4 24 (by simp [haf]))).trans E24.out
      have e25 := ((j4 25 (by simp [haf]))).trans E25.out
      replace j4 := Lib.hid j4
      clear haf hfb
      rw [HLIT.out]
      go_simp
      exact hK.out _ _ (RS.next (wv := wv) (vs := vs) 26 (x := .bool true) (by rw [HLIT.out]; simp only [upv, e24, e25, Nat.reduceBEq, cond_true, cond_false]) (by rw [HG.out]; exact j4.out) hM.out (by rw [HG.out]; exact fun _ _ h => h) (by rw [HG.out]; exact E26.out.symm))
    · intro bf ac wv hfb haf hJ K' hK
      obtain ⟨vs, rfl, hM, j4⟩ := hJ
      replace hK := Lib.hid hK
      replace hM := Lib.hid hM
      rw [HG.out] at j4
      simp [Region.binds] at haf
      have e24 := ((j4 24 (by simp [haf]))).trans E24.out
      have e26 := ((j4 26 (by simp [haf]))).trans E26.out
      replace j4 := Lib.hid j4
      clear haf hfb
      rw [HLIT.out]
      go_simp
      exact hK.out _ _ (RS.next (wv := wv) (vs := vs) 27 (x := .bool true) (by rw [HLIT.out]; simp only [upv, e24, e26, Nat.reduceBEq, cond_true, cond_false]) (by rw [HG.out]; exact j4.out) hM.out (by rw [HG.out]; exact fun _ _ h => h) (by rw [HG.out]; exact E27.out.symm))
    · intro bf ac wv hfb haf hJ K' hK
      obtain ⟨vs, rfl, hM, j4⟩ := hJ
      replace hK := Lib.hid hK
      replace hM := Lib.hid hM
      rw [HG.out] at j4
      simp [Region.binds] at haf
      have e27 := ((j4 27 (by simp [haf]))).trans E27.out
      replace j4 := Lib.hid j4
      clear haf hfb
      rw [HLIT.out]
      go_simp
      exact hK.out _ _ (RS.next (wv := wv) (vs := vs) 28 (x := .bool true) (by rw [HLIT.out]; simp only [upv, e27, Nat.reduceBEq, cond_true, cond_false]) (by rw [HG.out]; exact j4.out) hM.out (by rw [HG.out]; exact fun _ _ h => h) (by rw [HG.out]; exact E28.out.symm))
    · intro bf ac wv hfb haf hJ K' hK
      obtain ⟨vs, rfl, hM, j4⟩ := hJ
      replace hK := Lib.hid hK
      replace hM := Lib.hid hM
      rw [HG.out] at j4
      simp [Region.binds] at haf
      have e28 := ((j4 28 (by simp [haf]))).trans E28.out
      replace j4 := Lib.hid j4
      clear haf hfb
      have K1 := KM_16.out.step hM.out
      have x0 := K1.c 0 rfl
      have xz := K1.2.2
      clear K1
      rw [HLIT.out]
      go_simp
      exact hK.out _ _ (RS.next (wv := wv) (vs := vs) 29 (x := .agg #[.slice ma L.length mc]) (by rw [HLIT.out]; simp only [upv, e28, Nat.reduceBEq, cond_true, cond_false]) (by rw [HG.out]; exact j4.out) hM.out (by rw [HG.out]; exact fun _ _ h => h) (by rw [HG.out]; exact E29.out.symm))
    · intro bf ac wv hfb haf hJ K' hK
      obtain ⟨vs, rfl, hM, j4⟩ := hJ
      replace hK := Lib.hid hK
      replace hM := Lib.hid hM
      rw [HG.out] at j4
      simp [Region.binds] at haf
      have e28 := ((j4 28 (by simp [haf]))).trans E28.out
      replace j4 := Lib.hid j4
      clear haf hfb
      have K1 := KO_17.out.step hM.out
      have x0 := K1.c 0 rfl
      have xz := K1.2.2
      clear K1
      rw [HLIT.out]
      go_simp
      exact hK.out _ _ (RS.next (wv := wv) (vs := vs) 30 (x := .agg #[.slice na L.length nc]) (by rw [HLIT.out]; simp only [upv, e28, Nat.reduceBEq, cond_true, cond_false]) (by rw [HG.out]; exact j4.out) hM.out (by rw [HG.out]; exact fun _ _ h => h) (by rw [HG.out]; exact E30.out.symm))
    · intro bf ac wv hfb haf hJ K' hK
      obtain ⟨vs, rfl, hM, j4⟩ := hJ
      replace hK := Lib.hid hK
      replace hM := Lib.hid hM
      rw [HG.out] at j4
      simp [Region.binds] at haf
      have e28 := ((j4 28 (by simp [haf]))).trans E28.out
      have e29 := ((j4 29 (by simp [haf]))).trans E29.out
      have e30 := ((j4 30 (by simp [haf]))).trans E30.out
      replace j4 := Lib.hid j4
      clear haf hfb
      rw [HLIT.out]
      go_simp
      go_at_call 15
      refine (same_any _ _ L L _ (HTM.out.step hM.out).1 (HTN.out.step hM.out).1).mono ?_
      rintro e w4 ⟨rfl, b4⟩
      rw [decide_eq_true (rfl : L = L)]
      exact hK.out _ _ (RS.next (wv := wv) (vs := vs) 31 (x := .bool true) (by rw [HLIT.out]; simp only [upv, e28, e29, e30, Nat.reduceBEq, cond_true, cond_false]) (by rw [HG.out]; exact j4.out) (keep2 b4 hM.out) (by rw [HG.out]; exact fun _ _ h => h) (by rw [HG.out]; exact E31.out.symm))
    · intro bf ac wv hfb haf hJ K' hK
      obtain ⟨vs, rfl, hM, j4⟩ := hJ
      replace hK := Lib.hid hK
      replace hM := Lib.hid hM
      rw [HG.out] at j4
      simp [Region.binds] at haf
      have e28 := ((j4 28 (by simp [haf]))).trans E28.out
      have e31 := ((j4 31 (by simp [haf]))).trans E31.out
      replace j4 := Lib.hid j4
      clear haf hfb
      rw [HLIT.out]
      go_simp
      exact hK.out _ _ (RS.next (wv := wv) (vs := vs) 32 (x := .bool true) (by rw [HLIT.out]; simp only [upv, e28, e31, Nat.reduceBEq, cond_true, cond_false]) (by rw [HG.out]; exact j4.out) hM.out (by rw [HG.out]; exact fun _ _ h => h) (by rw [HG.out]; exact E32.out.symm))
    · intro bf ac wv hfb haf hJ K' hK
      obtain ⟨vs, rfl, hM, j4⟩ := hJ
      replace hK := Lib.hid hK
      replace hM := Lib.hid hM
      rw [HG.out] at j4
      simp [Region.binds] at haf
      have e32 := ((j4 32 (by simp [haf]))).trans E32.out
      replace j4 := Lib.hid j4
      clear haf hfb
      rw [HLIT.out]
      go_simp
      exact hK.out _ _ (RS.next (wv := wv) (vs := vs) 33 (x := .bool true) (by rw [HLIT.out]; simp only [upv, e32, Nat.reduceBEq, cond_true, cond_false]) (by rw [HG.out]; exact j4.out) hM.out (by rw [HG.out]; exact fun _ _ h => h) (by rw [HG.out]; exact E33.out.symm))
  · intro bf ac wv hall hJ
    obtain ⟨vs, rfl, hM, j4⟩ := hJ
    rw [HG.out] at j4
    have e33 := ((j4 33 (hall 33 (by decide)))).trans E33.out
    have HB9 := Lib.hid (keep2 hM HB18.out)
    clear hall j4 hM
    rw [HLIT.out]
    dsimp only
    rw [e33]
    clear e33
    go_wp2
    go_ret
    exact ⟨rfl, HB9.out⟩
set_option maxRecDepth 100000 in
set_option maxHeartbeats 4000000 in
theorem sets_r (va : Value) (m : List Int) (x y : Int) (w : World) (ha : TgAt w va m) (hx : -9223372036854775808 ≤ x ∧ x ≤ 9223372036854775807) (hy : -9223372036854775808 ≤ y ∧ y ≤ 9223372036854775807) (hf : fwB m.length = true) (he : mgE m [x] = 0) (hp : hsB m y = false) (hq : x ≠ y) : Calls Try.prog 4 #[.agg #[va], .int .i64 x, .int .i64 y] w fun e w' => e = .returned (.bool true) ∧ Below w.heap.size w w' := by
  have HA := Lib.hid ha
  have HX := Lib.hid hx
  have HY := Lib.hid hy
  clear hx hy
  obtain ⟨⟨aa, ac, rfl, ham, -⟩, -⟩ := ha
  unfold maxLen at ham
  have FW := Lib.hid hf
  clear hf
  have q1 : (x == y) = false := by simpa using hq
  have q2 : decide (x = y) = false := by simpa using hq
  have HE := Lib.hid he
  obtain ⟨⟨a1, a2⟩, a3, a4⟩ := add_zero he
  obtain ⟨b1, b2, b3, b4, b5⟩ := sets_zero y he
  have HL := Lib.hid a3
  have SL := Lib.hid a4
  have HE2 := Lib.hid b1
  have HL2 := Lib.hid b2
  have HH1 := Lib.hid b3
  have HP := Lib.hid hp
  have HH2 := Lib.hid (show hsB (mg m [x]) y = false by rw [b5 hp]; exact q1)
  clear a1 a2 a3 a4 b1 b2 b3 b4 b5 hp
  clear he
  have HB0 := Lib.hid (Below.refl w.heap.size w)
  go_enter Try.func4, Try.ntmps4
  have KA_1 := Lib.hid (Cs.new w (w.heap.size) #[.slice aa m.length ac] 24 (by simp))
  have HB2 : Hid (Below w.heap.size w (w.alloc (.cells #[.slice aa m.length ac] 24))) := HB0.out.alloc HB0.out.size _
  clear HB0
  go_wp2_with fail
  refine (head_any _).mono ?_
  rintro e u1 ⟨rfl, b1⟩
  have KA_3 := Lib.hid (KA_1.out.step b1)
  clear KA_1
  have HB4 := Lib.hid (keep2 b1 HB2.out)
  clear HB2 b1
  have xA0 : u1.cell? ⟨w.heap.size, 0, none⟩ = some (.slice aa m.length ac) := KA_3.out.c 0 rfl
  have zA : w.heap.size < u1.heap.size := KA_3.out.2.2
  have z2A : w.heap.size < u1.heap.size + 1 := by omega
  go_wp2_with fail
  have KA_5 := Lib.hid (KA_3.out.alloc (.cells #[.slice aa m.length ac] 24))
  clear KA_3
  have HB6 : Hid (Below w.heap.size w (u1.alloc (.cells #[.slice aa m.length ac] 24))) := HB4.out.alloc HB4.out.size _
  clear HB4
  refine (few_any _ [(aa, m.length, ac)] _ (sls_one u1 aa m.length ac u1.heap.size rfl) (by simp) (by intro q hq; simp at hq; subst hq; unfold maxLen; omega)).mono ?_
  rintro e w' ⟨rfl, rfl⟩
  rw [show ([(aa, m.length, ac)] : List (Option Addr × Nat × Nat)).all (fun q => fwB q.2.1) = true from by simp only [List.all_cons, List.all_nil, FW.out]; rfl]
  clear xA0 zA z2A
  have xA0 : (u1.alloc (.cells #[.slice aa m.length ac] 24)).cell? ⟨w.heap.size, 0, none⟩ = some (.slice aa m.length ac) := KA_5.out.c 0 rfl
  have zA : w.heap.size < (u1.alloc (.cells #[.slice aa m.length ac] 24)).heap.size := KA_5.out.2.2
  have z2A : w.heap.size < (u1.alloc (.cells #[.slice aa m.length ac] 24)).heap.size + 1 := by omega
  go_wp2_with fail
  refine (add_any _ m x _ (HA.out.step HB6.out)).mono ?_
  rintro e u24 ⟨⟨um, rfl, hum⟩, b24⟩
  rw [HE.out]
  obtain ⟨ma, mc, rfl, htm⟩ := row_tg hum HL.out rfl
  have HTM := Lib.hid htm
  clear hum htm
  clear xA0 zA z2A
  have KA_7 := Lib.hid (KA_5.out.step b24)
  clear KA_5
  have HB8 := Lib.hid (keep2 b24 HB6.out)
  clear HB6 b24
  obtain ⟨L, hL⟩ : ∃ L, mg m [x] = L := ⟨_, rfl⟩
  rw [hL] at HTM SL HE2 HL2 HH1 HH2 ⊢
  clear hL HL
  replace HTM := Lib.hid (HTM.out.step (al u24 (.cells #[.slice ma L.length mc] 24)))
  have KA_9 := Lib.hid (KA_7.out.alloc (.cells #[.slice ma L.length mc] 24))
  clear KA_7
  have KM_10 := Lib.hid (Cs.new u24 (u24.heap.size) #[.slice ma L.length mc] 24 (by simp))
  have HB11 : Hid (Below w.heap.size w (u24.alloc (.cells #[.slice ma L.length mc] 24))) := HB8.out.alloc HB8.out.size _
  clear HB8
  have xM0 : (u24.alloc (.cells #[.slice ma L.length mc] 24)).cell? ⟨u24.heap.size, 0, none⟩ = some (.slice ma L.length mc) := KM_10.out.c 0 rfl
  have zM : u24.heap.size < (u24.alloc (.cells #[.slice ma L.length mc] 24)).heap.size := KM_10.out.2.2
  have z2M : u24.heap.size < (u24.alloc (.cells #[.slice ma L.length mc] 24)).heap.size + 1 := by omega
  go_wp2_with fail
  refine (add_any _ L x _ HTM.out).mono ?_
  rintro e u25 ⟨⟨un, rfl, hun⟩, b25⟩
  rw [HE2.out]
  obtain ⟨na, nc, rfl, htn⟩ := row_tg hun HL2.out rfl
  have HTN := Lib.hid htn
  clear hun htn
  replace HTM := Lib.hid (HTM.out.step b25)
  clear xM0 zM z2M
  have KA_12 := Lib.hid (KA_9.out.step b25)
  clear KA_9
  have KM_13 := Lib.hid (KM_10.out.step b25)
  clear KM_10
  have HB14 := Lib.hid (keep2 b25 HB11.out)
  clear HB11 b25
  replace HTM := Lib.hid (HTM.out.step (al u25 (.cells #[.slice na L.length nc] 24)))
  replace HTN := Lib.hid (HTN.out.step (al u25 (.cells #[.slice na L.length nc] 24)))
  have KA_15 := Lib.hid (KA_12.out.alloc (.cells #[.slice na L.length nc] 24))
  clear KA_12
  have KM_16 := Lib.hid (KM_13.out.alloc (.cells #[.slice na L.length nc] 24))
  clear KM_13
  have KO_17 := Lib.hid (Cs.new u25 (u25.heap.size) #[.slice na L.length nc] 24 (by simp))
  have HB18 : Hid (Below w.heap.size w (u25.alloc (.cells #[.slice na L.length nc] 24))) := HB14.out.alloc HB14.out.size _
  clear HB14
  go_wp2_with fail
  obtain ⟨lit, hlit⟩ : ∃ lit : (Nat → Value) → Act, lit = fun vs => { tmps := List.toArray (Value.agg #[Value.slice aa m.length ac] :: Value.int IntKind.i64 x :: Value.int IntKind.i64 y :: Value.pointer (some { block := w.heap.size, off := 0 }) :: undef :: undef :: vs 33 :: Value.bool true :: Value.pointer (some { block := u24.heap.size, off := 0 }) :: Value.int IntKind.i64 0 :: Value.pointer (some { block := u25.heap.size, off := 0 }) :: Value.int IntKind.i64 0 :: Value.bool true :: Value.agg #[Value.slice aa m.length ac] :: Value.slice (some { block := u1.heap.size, off := 0 }) 1 1 :: Value.bool true :: Value.bool false :: undef :: Value.tuple #[Value.agg #[Value.slice ma L.length mc], Value.int IntKind.i64 0] :: Value.agg #[Value.slice aa m.length ac] :: Value.int IntKind.i64 x :: Value.tuple #[Value.agg #[Value.slice ma L.length mc], Value.int IntKind.i64 0] :: Value.agg #[Value.slice ma L.length mc] :: Value.int IntKind.i64 0 :: Value.int IntKind.i64 0 :: Value.bool false :: undef :: undef :: undef :: undef :: undef :: undef :: undef :: undef :: undef :: undef :: undef :: undef :: undef :: undef :: undef :: undef :: undef :: undef :: undef :: undef :: undef :: Value.tuple #[Value.agg #[Value.slice na L.length nc], Value.int IntKind.i64 0] :: Value.agg #[Value.slice ma L.length mc] :: Value.int IntKind.i64 x :: Value.tuple #[Value.agg #[Value.slice na L.length nc], Value.int IntKind.i64 0] :: Value.agg #[Value.slice na L.length nc] :: Value.int IntKind.i64 0 :: vs 0 :: vs 1 :: vs 2 :: vs 3 :: vs 4 :: vs 5 :: vs 6 :: vs 7 :: vs 8 :: vs 9 :: vs 10 :: vs 11 :: vs 12 :: vs 13 :: vs 14 :: vs 15 :: vs 16 :: vs 17 :: vs 18 :: vs 19 :: vs 20 :: vs 21 :: vs 22 :: vs 23 :: vs 24 :: vs 25 :: vs 26 :: vs 27 :: vs 28 :: vs 29 :: vs 30 :: vs 31 :: vs 32 :: []), defers := [] } := ⟨_, rfl⟩
  have HLIT := Lib.hid hlit
  clear hlit
  obtain ⟨val, hval⟩ : ∃ val : List Value, val = [.bool true, .bool true, .agg #[.slice ma L.length mc], .bool true, .bool true, .bool true, .agg #[.slice ma L.length mc], .int .i64 x, .bool true, .bool true, .bool true, .agg #[.slice ma L.length mc], .int .i64 y, .bool false, .agg #[.slice aa m.length ac], .int .i64 y, .bool false, .bool false, .int .i64 x, .int .i64 y, .bool false, .bool false, .bool true, .bool true, .bool true, .int .i64 0, .bool true, .bool true, .bool true, .agg #[.slice ma L.length mc], .agg #[.slice na L.length nc], .bool true, .bool true, .bool true] := ⟨_, rfl⟩
  have E0 := Lib.hid (show val.getD 0 undef = .bool true by rw [hval]; rfl)
  have E1 := Lib.hid (show val.getD 1 undef = .bool true by rw [hval]; rfl)
  have E2 := Lib.hid (show val.getD 2 undef = .agg #[.slice ma L.length mc] by rw [hval]; rfl)
  have E3 := Lib.hid (show val.getD 3 undef = .bool true by rw [hval]; rfl)
  have E4 := Lib.hid (show val.getD 4 undef = .bool true by rw [hval]; rfl)
  have E5 := Lib.hid (show val.getD 5 undef = .bool true by rw [hval]; rfl)
  have E6 := Lib.hid (show val.getD 6 undef = .agg #[.slice ma L.length mc] by rw [hval]; rfl)
  have E7 := Lib.hid (show val.getD 7 undef = .int .i64 x by rw [hval]; rfl)
  have E8 := Lib.hid (show val.getD 8 undef = .bool true by rw [hval]; rfl)
  have E9 := Lib.hid (show val.getD 9 undef = .bool true by rw [hval]; rfl)
  have E10 := Lib.hid (show val.getD 10 undef = .bool true by rw [hval]; rfl)
  have E11 := Lib.hid (show val.getD 11 undef = .agg #[.slice ma L.length mc] by rw [hval]; rfl)
  have E12 := Lib.hid (show val.getD 12 undef = .int .i64 y by rw [hval]; rfl)
  have E13 := Lib.hid (show val.getD 13 undef = .bool false by rw [hval]; rfl)
  have E14 := Lib.hid (show val.getD 14 undef = .agg #[.slice aa m.length ac] by rw [hval]; rfl)
  have E15 := Lib.hid (show val.getD 15 undef = .int .i64 y by rw [hval]; rfl)
  have E16 := Lib.hid (show val.getD 16 undef = .bool false by rw [hval]; rfl)
  have E17 := Lib.hid (show val.getD 17 undef = .bool false by rw [hval]; rfl)
  have E18 := Lib.hid (show val.getD 18 undef = .int .i64 x by rw [hval]; rfl)
  have E19 := Lib.hid (show val.getD 19 undef = .int .i64 y by rw [hval]; rfl)
  have E20 := Lib.hid (show val.getD 20 undef = .bool false by rw [hval]; rfl)
  have E21 := Lib.hid (show val.getD 21 undef = .bool false by rw [hval]; rfl)
  have E22 := Lib.hid (show val.getD 22 undef = .bool true by rw [hval]; rfl)
  have E23 := Lib.hid (show val.getD 23 undef = .bool true by rw [hval]; rfl)
  have E24 := Lib.hid (show val.getD 24 undef = .bool true by rw [hval]; rfl)
  have E25 := Lib.hid (show val.getD 25 undef = .int .i64 0 by rw [hval]; rfl)
  have E26 := Lib.hid (show val.getD 26 undef = .bool true by rw [hval]; rfl)
  have E27 := Lib.hid (show val.getD 27 undef = .bool true by rw [hval]; rfl)
  have E28 := Lib.hid (show val.getD 28 undef = .bool true by rw [hval]; rfl)
  have E29 := Lib.hid (show val.getD 29 undef = .agg #[.slice ma L.length mc] by rw [hval]; rfl)
  have E30 := Lib.hid (show val.getD 30 undef = .agg #[.slice na L.length nc] by rw [hval]; rfl)
  have E31 := Lib.hid (show val.getD 31 undef = .bool true by rw [hval]; rfl)
  have E32 := Lib.hid (show val.getD 32 undef = .bool true by rw [hval]; rfl)
  have E33 := Lib.hid (show val.getD 33 undef = .bool true by rw [hval]; rfl)
  clear hval
  obtain ⟨G, hG0⟩ : ∃ G : Nat → Value → World → Prop, G = (fun i v w => (v = val.getD i undef)) := ⟨_, rfl⟩
  have HG := Lib.hid hG0
  clear hG0
  refine region_inv (RS lit (u25.alloc (.cells #[.slice na L.length nc] 24)) G) (by kernel_rfl) (by decide +kernel) ?_ ?_ ?_
  · exact ⟨fun i => ([undef, undef, undef, undef, undef, undef, undef, undef, undef, undef, undef, undef, undef, undef, undef, undef, undef, undef, undef, undef, undef, undef, undef, undef, undef, undef, undef, undef, undef, undef, undef, undef, undef, Value.bool false] : List Value).getD i undef, (by rw [HLIT.out]; rfl), below_drew _ _, fun i h => by cases h⟩
  · refine ⟨?_, ?_, ?_, ?_, ?_, ?_, ?_, ?_, ?_, ?_, ?_, ?_, ?_, ?_, ?_, ?_, ?_, ?_, ?_, ?_, ?_, ?_, ?_, ?_, ?_, ?_, ?_, ?_, ?_, ?_, ?_, ?_, ?_, ?_, trivial⟩
    · intro bf ac wv hfb haf hJ K' hK
      obtain ⟨vs, rfl, hM, j4⟩ := hJ
      replace hK := Lib.hid hK
      replace hM := Lib.hid hM
      rw [HG.out] at j4
      replace j4 := Lib.hid j4
      clear haf hfb
      rw [HLIT.out]
      go_simp
      exact hK.out _ _ (RS.next (wv := wv) (vs := vs) 0 (x := .bool true) (by rw [HLIT.out]; rfl) (by rw [HG.out]; exact j4.out) hM.out (by rw [HG.out]; exact fun _ _ h => h) (by rw [HG.out]; exact E0.out.symm))
    · intro bf ac wv hfb haf hJ K' hK
      obtain ⟨vs, rfl, hM, j4⟩ := hJ
      replace hK := Lib.hid hK
      replace hM := Lib.hid hM
      rw [HG.out] at j4
      simp [Region.binds] at haf
      have e0 := ((j4 0 (by simp [haf]))).trans E0.out
      replace j4 := Lib.hid j4
      clear haf hfb
      rw [HLIT.out]
      go_simp
      exact hK.out _ _ (RS.next (wv := wv) (vs := vs) 1 (x := .bool true) (by rw [HLIT.out]; simp only [upv, e0, Nat.reduceBEq, cond_true, cond_false]) (by rw [HG.out]; exact j4.out) hM.out (by rw [HG.out]; exact fun _ _ h => h) (by rw [HG.out]; exact E1.out.symm))
    · intro bf ac wv hfb haf hJ K' hK
      obtain ⟨vs, rfl, hM, j4⟩ := hJ
      replace hK := Lib.hid hK
      replace hM := Lib.hid hM
      rw [HG.out] at j4
      simp [Region.binds] at haf
      have e1 := ((j4 1 (by simp [haf]))).trans E1.out
      replace j4 := Lib.hid j4
      clear haf hfb
      have K1 := KM_16.out.step hM.out
      have x0 := K1.c 0 rfl
      have xz := K1.2.2
      clear K1
      rw [HLIT.out]
      go_simp
      exact hK.out _ _ (RS.next (wv := wv) (vs := vs) 2 (x := .agg #[.slice ma L.length mc]) (by rw [HLIT.out]; simp only [upv, e1, Nat.reduceBEq, cond_true, cond_false]) (by rw [HG.out]; exact j4.out) hM.out (by rw [HG.out]; exact fun _ _ h => h) (by rw [HG.out]; exact E2.out.symm))
    · intro bf ac wv hfb haf hJ K' hK
      obtain ⟨vs, rfl, hM, j4⟩ := hJ
      replace hK := Lib.hid hK
      replace hM := Lib.hid hM
      rw [HG.out] at j4
      simp [Region.binds] at haf
      have e1 := ((j4 1 (by simp [haf]))).trans E1.out
      have e2 := ((j4 2 (by simp [haf]))).trans E2.out
      replace j4 := Lib.hid j4
      clear haf hfb
      rw [HLIT.out]
      go_simp
      go_at_call 20
      refine (rvalid_any _ L _ (HTM.out.step hM.out).1).mono ?_
      rintro e w4 ⟨rfl, b4⟩
      rw [SL.out]
      exact hK.out _ _ (RS.next (wv := wv) (vs := vs) 3 (x := .bool true) (by rw [HLIT.out]; simp only [upv, e1, e2, Nat.reduceBEq, cond_true, cond_false]) (by rw [HG.out]; exact j4.out) (keep2 b4 hM.out) (by rw [HG.out]; exact fun _ _ h => h) (by rw [HG.out]; exact E3.out.symm))
    · intro bf ac wv hfb haf hJ K' hK
      obtain ⟨vs, rfl, hM, j4⟩ := hJ
      replace hK := Lib.hid hK
      replace hM := Lib.hid hM
      rw [HG.out] at j4
      simp [Region.binds] at haf
      have e1 := ((j4 1 (by simp [haf]))).trans E1.out
      have e3 := ((j4 3 (by simp [haf]))).trans E3.out
      replace j4 := Lib.hid j4
      clear haf hfb
      rw [HLIT.out]
      go_simp
      exact hK.out _ _ (RS.next (wv := wv) (vs := vs) 4 (x := .bool true) (by rw [HLIT.out]; simp only [upv, e1, e3, Nat.reduceBEq, cond_true, cond_false]) (by rw [HG.out]; exact j4.out) hM.out (by rw [HG.out]; exact fun _ _ h => h) (by rw [HG.out]; exact E4.out.symm))
    · intro bf ac wv hfb haf hJ K' hK
      obtain ⟨vs, rfl, hM, j4⟩ := hJ
      replace hK := Lib.hid hK
      replace hM := Lib.hid hM
      rw [HG.out] at j4
      simp [Region.binds] at haf
      have e4 := ((j4 4 (by simp [haf]))).trans E4.out
      replace j4 := Lib.hid j4
      clear haf hfb
      rw [HLIT.out]
      go_simp
      exact hK.out _ _ (RS.next (wv := wv) (vs := vs) 5 (x := .bool true) (by rw [HLIT.out]; simp only [upv, e4, Nat.reduceBEq, cond_true, cond_false]) (by rw [HG.out]; exact j4.out) hM.out (by rw [HG.out]; exact fun _ _ h => h) (by rw [HG.out]; exact E5.out.symm))
    · intro bf ac wv hfb haf hJ K' hK
      obtain ⟨vs, rfl, hM, j4⟩ := hJ
      replace hK := Lib.hid hK
      replace hM := Lib.hid hM
      rw [HG.out] at j4
      simp [Region.binds] at haf
      have e5 := ((j4 5 (by simp [haf]))).trans E5.out
      replace j4 := Lib.hid j4
      clear haf hfb
      have K1 := KM_16.out.step hM.out
      have x0 := K1.c 0 rfl
      have xz := K1.2.2
      clear K1
      rw [HLIT.out]
      go_simp
      exact hK.out _ _ (RS.next (wv := wv) (vs := vs) 6 (x := .agg #[.slice ma L.length mc]) (by rw [HLIT.out]; simp only [upv, e5, Nat.reduceBEq, cond_true, cond_false]) (by rw [HG.out]; exact j4.out) hM.out (by rw [HG.out]; exact fun _ _ h => h) (by rw [HG.out]; exact E6.out.symm))
    · intro bf ac wv hfb haf hJ K' hK
      obtain ⟨vs, rfl, hM, j4⟩ := hJ
      replace hK := Lib.hid hK
      replace hM := Lib.hid hM
      rw [HG.out] at j4
      simp [Region.binds] at haf
      have e5 := ((j4 5 (by simp [haf]))).trans E5.out
      replace j4 := Lib.hid j4
      clear haf hfb
      rw [HLIT.out]
      go_simp
      exact hK.out _ _ (RS.next (wv := wv) (vs := vs) 7 (x := .int .i64 x) (by rw [HLIT.out]; simp only [upv, e5, Nat.reduceBEq, cond_true, cond_false]) (by rw [HG.out]; exact j4.out) hM.out (by rw [HG.out]; exact fun _ _ h => h) (by rw [HG.out]; exact E7.out.symm))
    · intro bf ac wv hfb haf hJ K' hK
      obtain ⟨vs, rfl, hM, j4⟩ := hJ
      replace hK := Lib.hid hK
      replace hM := Lib.hid hM
      rw [HG.out] at j4
      simp [Region.binds] at haf
      have e5 := ((j4 5 (by simp [haf]))).trans E5.out
      have e6 := ((j4 6 (by simp [haf]))).trans E6.out
      have e7 := ((j4 7 (by simp [haf]))).trans E7.out
      replace j4 := Lib.hid j4
      clear haf hfb
      rw [HLIT.out]
      go_simp
      go_at_call 16
      refine (has2_any _ L x _ ((HTM.out.step hM.out)).1 HX.out).mono ?_
      rintro e w4 ⟨rfl, b4⟩
      rw [HH1.out]
      exact hK.out _ _ (RS.next (wv := wv) (vs := vs) 8 (x := .bool true) (by rw [HLIT.out]; simp only [upv, e5, e6, e7, Nat.reduceBEq, cond_true, cond_false]) (by rw [HG.out]; exact j4.out) (keep2 b4 hM.out) (by rw [HG.out]; exact fun _ _ h => h) (by rw [HG.out]; exact E8.out.symm))
    · intro bf ac wv hfb haf hJ K' hK
      obtain ⟨vs, rfl, hM, j4⟩ := hJ
      replace hK := Lib.hid hK
      replace hM := Lib.hid hM
      rw [HG.out] at j4
      simp [Region.binds] at haf
      have e5 := ((j4 5 (by simp [haf]))).trans E5.out
      have e8 := ((j4 8 (by simp [haf]))).trans E8.out
      replace j4 := Lib.hid j4
      clear haf hfb
      rw [HLIT.out]
      go_simp
      exact hK.out _ _ (RS.next (wv := wv) (vs := vs) 9 (x := .bool true) (by rw [HLIT.out]; simp only [upv, e5, e8, Nat.reduceBEq, cond_true, cond_false]) (by rw [HG.out]; exact j4.out) hM.out (by rw [HG.out]; exact fun _ _ h => h) (by rw [HG.out]; exact E9.out.symm))
    · intro bf ac wv hfb haf hJ K' hK
      obtain ⟨vs, rfl, hM, j4⟩ := hJ
      replace hK := Lib.hid hK
      replace hM := Lib.hid hM
      rw [HG.out] at j4
      simp [Region.binds] at haf
      have e9 := ((j4 9 (by simp [haf]))).trans E9.out
      replace j4 := Lib.hid j4
      clear haf hfb
      rw [HLIT.out]
      go_simp
      exact hK.out _ _ (RS.next (wv := wv) (vs := vs) 10 (x := .bool true) (by rw [HLIT.out]; simp only [upv, e9, Nat.reduceBEq, cond_true, cond_false]) (by rw [HG.out]; exact j4.out) hM.out (by rw [HG.out]; exact fun _ _ h => h) (by rw [HG.out]; exact E10.out.symm))
    · intro bf ac wv hfb haf hJ K' hK
      obtain ⟨vs, rfl, hM, j4⟩ := hJ
      replace hK := Lib.hid hK
      replace hM := Lib.hid hM
      rw [HG.out] at j4
      simp [Region.binds] at haf
      have e10 := ((j4 10 (by simp [haf]))).trans E10.out
      replace j4 := Lib.hid j4
      clear haf hfb
      have K1 := KM_16.out.step hM.out
      have x0 := K1.c 0 rfl
      have xz := K1.2.2
      clear K1
      rw [HLIT.out]
      go_simp
      exact hK.out _ _ (RS.next (wv := wv) (vs := vs) 11 (x := .agg #[.slice ma L.length mc]) (by rw [HLIT.out]; simp only [upv, e10, Nat.reduceBEq, cond_true, cond_false]) (by rw [HG.out]; exact j4.out) hM.out (by rw [HG.out]; exact fun _ _ h => h) (by rw [HG.out]; exact E11.out.symm))
    · intro bf ac wv hfb haf hJ K' hK
      obtain ⟨vs, rfl, hM, j4⟩ := hJ
      replace hK := Lib.hid hK
      replace hM := Lib.hid hM
      rw [HG.out] at j4
      simp [Region.binds] at haf
      have e10 := ((j4 10 (by simp [haf]))).trans E10.out
      replace j4 := Lib.hid j4
      clear haf hfb
      rw [HLIT.out]
      go_simp
      exact hK.out _ _ (RS.next (wv := wv) (vs := vs) 12 (x := .int .i64 y) (by rw [HLIT.out]; simp only [upv, e10, Nat.reduceBEq, cond_true, cond_false]) (by rw [HG.out]; exact j4.out) hM.out (by rw [HG.out]; exact fun _ _ h => h) (by rw [HG.out]; exact E12.out.symm))
    · intro bf ac wv hfb haf hJ K' hK
      obtain ⟨vs, rfl, hM, j4⟩ := hJ
      replace hK := Lib.hid hK
      replace hM := Lib.hid hM
      rw [HG.out] at j4
      simp [Region.binds] at haf
      have e10 := ((j4 10 (by simp [haf]))).trans E10.out
      have e11 := ((j4 11 (by simp [haf]))).trans E11.out
      have e12 := ((j4 12 (by simp [haf]))).trans E12.out
      replace j4 := Lib.hid j4
      clear haf hfb
      rw [HLIT.out]
      go_simp
      go_at_call 16
      refine (has2_any _ L y _ ((HTM.out.step hM.out)).1 HY.out).mono ?_
      rintro e w4 ⟨rfl, b4⟩
      rw [HH2.out]
      exact hK.out _ _ (RS.next (wv := wv) (vs := vs) 13 (x := .bool false) (by rw [HLIT.out]; simp only [upv, e10, e11, e12, Nat.reduceBEq, cond_true, cond_false]) (by rw [HG.out]; exact j4.out) (keep2 b4 hM.out) (by rw [HG.out]; exact fun _ _ h => h) (by rw [HG.out]; exact E13.out.symm))
    · intro bf ac wv hfb haf hJ K' hK
      obtain ⟨vs, rfl, hM, j4⟩ := hJ
      replace hK := Lib.hid hK
      replace hM := Lib.hid hM
      rw [HG.out] at j4
      simp [Region.binds] at haf
      have e10 := ((j4 10 (by simp [haf]))).trans E10.out
      replace j4 := Lib.hid j4
      clear haf hfb
      have K1 := KA_15.out.step hM.out
      have x0 := K1.c 0 rfl
      have xz := K1.2.2
      clear K1
      rw [HLIT.out]
      go_simp
      exact hK.out _ _ (RS.next (wv := wv) (vs := vs) 14 (x := .agg #[.slice aa m.length ac]) (by rw [HLIT.out]; simp only [upv, e10, Nat.reduceBEq, cond_true, cond_false]) (by rw [HG.out]; exact j4.out) hM.out (by rw [HG.out]; exact fun _ _ h => h) (by rw [HG.out]; exact E14.out.symm))
    · intro bf ac wv hfb haf hJ K' hK
      obtain ⟨vs, rfl, hM, j4⟩ := hJ
      replace hK := Lib.hid hK
      replace hM := Lib.hid hM
      rw [HG.out] at j4
      simp [Region.binds] at haf
      have e10 := ((j4 10 (by simp [haf]))).trans E10.out
      replace j4 := Lib.hid j4
      clear haf hfb
      rw [HLIT.out]
      go_simp
      exact hK.out _ _ (RS.next (wv := wv) (vs := vs) 15 (x := .int .i64 y) (by rw [HLIT.out]; simp only [upv, e10, Nat.reduceBEq, cond_true, cond_false]) (by rw [HG.out]; exact j4.out) hM.out (by rw [HG.out]; exact fun _ _ h => h) (by rw [HG.out]; exact E15.out.symm))
    · intro bf ac wv hfb haf hJ K' hK
      obtain ⟨vs, rfl, hM, j4⟩ := hJ
      replace hK := Lib.hid hK
      replace hM := Lib.hid hM
      rw [HG.out] at j4
      simp [Region.binds] at haf
      have e10 := ((j4 10 (by simp [haf]))).trans E10.out
      have e14 := ((j4 14 (by simp [haf]))).trans E14.out
      have e15 := ((j4 15 (by simp [haf]))).trans E15.out
      replace j4 := Lib.hid j4
      clear haf hfb
      rw [HLIT.out]
      go_simp
      go_at_call 16
      refine (has2_any _ m y _ (((HA.out.step HB18.out).step hM.out)).1 HY.out).mono ?_
      rintro e w4 ⟨rfl, b4⟩
      rw [HP.out]
      exact hK.out _ _ (RS.next (wv := wv) (vs := vs) 16 (x := .bool false) (by rw [HLIT.out]; simp only [upv, e10, e14, e15, Nat.reduceBEq, cond_true, cond_false]) (by rw [HG.out]; exact j4.out) (keep2 b4 hM.out) (by rw [HG.out]; exact fun _ _ h => h) (by rw [HG.out]; exact E16.out.symm))
    · intro bf ac wv hfb haf hJ K' hK
      obtain ⟨vs, rfl, hM, j4⟩ := hJ
      replace hK := Lib.hid hK
      replace hM := Lib.hid hM
      rw [HG.out] at j4
      simp [Region.binds] at haf
      have e10 := ((j4 10 (by simp [haf]))).trans E10.out
      have e16 := ((j4 16 (by simp [haf]))).trans E16.out
      replace j4 := Lib.hid j4
      clear haf hfb
      rw [HLIT.out]
      go_simp
      exact hK.out _ _ (RS.next (wv := wv) (vs := vs) 17 (x := .bool false) (by rw [HLIT.out]; simp only [upv, e10, e16, Nat.reduceBEq, cond_true, cond_false]) (by rw [HG.out]; exact j4.out) hM.out (by rw [HG.out]; exact fun _ _ h => h) (by rw [HG.out]; exact E17.out.symm))
    · intro bf ac wv hfb haf hJ K' hK
      obtain ⟨vs, rfl, hM, j4⟩ := hJ
      replace hK := Lib.hid hK
      replace hM := Lib.hid hM
      rw [HG.out] at j4
      simp [Region.binds] at haf
      have e17 := ((j4 17 (by simp [haf]))).trans E17.out
      replace j4 := Lib.hid j4
      clear haf hfb
      rw [HLIT.out]
      go_simp
      exact hK.out _ _ (RS.next (wv := wv) (vs := vs) 18 (x := .int .i64 x) (by rw [HLIT.out]; simp only [upv, e17, Nat.reduceBEq, cond_true, cond_false]) (by rw [HG.out]; exact j4.out) hM.out (by rw [HG.out]; exact fun _ _ h => h) (by rw [HG.out]; exact E18.out.symm))
    · intro bf ac wv hfb haf hJ K' hK
      obtain ⟨vs, rfl, hM, j4⟩ := hJ
      replace hK := Lib.hid hK
      replace hM := Lib.hid hM
      rw [HG.out] at j4
      simp [Region.binds] at haf
      have e17 := ((j4 17 (by simp [haf]))).trans E17.out
      replace j4 := Lib.hid j4
      clear haf hfb
      rw [HLIT.out]
      go_simp
      exact hK.out _ _ (RS.next (wv := wv) (vs := vs) 19 (x := .int .i64 y) (by rw [HLIT.out]; simp only [upv, e17, Nat.reduceBEq, cond_true, cond_false]) (by rw [HG.out]; exact j4.out) hM.out (by rw [HG.out]; exact fun _ _ h => h) (by rw [HG.out]; exact E19.out.symm))
    · intro bf ac wv hfb haf hJ K' hK
      obtain ⟨vs, rfl, hM, j4⟩ := hJ
      replace hK := Lib.hid hK
      replace hM := Lib.hid hM
      rw [HG.out] at j4
      simp [Region.binds] at haf
      have e17 := ((j4 17 (by simp [haf]))).trans E17.out
      have e18 := ((j4 18 (by simp [haf]))).trans E18.out
      have e19 := ((j4 19 (by simp [haf]))).trans E19.out
      replace j4 := Lib.hid j4
      clear haf hfb
      rw [HLIT.out]
      go_simp
      exact hK.out _ _ (RS.next (wv := wv) (vs := vs) 20 (x := .bool false) (by rw [HLIT.out]; simp only [upv, e17, e18, e19, Nat.reduceBEq, cond_true, cond_false]) (by rw [HG.out]; exact j4.out) hM.out (by rw [HG.out]; exact fun _ _ h => h) (by rw [HG.out]; exact E20.out.symm))
    · intro bf ac wv hfb haf hJ K' hK
      obtain ⟨vs, rfl, hM, j4⟩ := hJ
      replace hK := Lib.hid hK
      replace hM := Lib.hid hM
      rw [HG.out] at j4
      simp [Region.binds] at haf
      have e10 := ((j4 10 (by simp [haf]))).trans E10.out
      have e17 := ((j4 17 (by simp [haf]))).trans E17.out
      have e20 := ((j4 20 (by simp [haf]))).trans E20.out
      replace j4 := Lib.hid j4
      clear haf hfb
      rw [HLIT.out]
      go_simp
      exact hK.out _ _ (RS.next (wv := wv) (vs := vs) 21 (x := .bool false) (by rw [HLIT.out]; simp only [upv, e10, e17, e20, Nat.reduceBEq, cond_true, cond_false]) (by rw [HG.out]; exact j4.out) hM.out (by rw [HG.out]; exact fun _ _ h => h) (by rw [HG.out]; exact E21.out.symm))
    · intro bf ac wv hfb haf hJ K' hK
      obtain ⟨vs, rfl, hM, j4⟩ := hJ
      replace hK := Lib.hid hK
      replace hM := Lib.hid hM
      rw [HG.out] at j4
      simp [Region.binds] at haf
      have e10 := ((j4 10 (by simp [haf]))).trans E10.out
      have e13 := ((j4 13 (by simp [haf]))).trans E13.out
      have e21 := ((j4 21 (by simp [haf]))).trans E21.out
      replace j4 := Lib.hid j4
      clear haf hfb
      rw [HLIT.out]
      go_simp
      exact hK.out _ _ (RS.next (wv := wv) (vs := vs) 22 (x := .bool true) (by rw [HLIT.out]; simp only [upv, e10, e13, e21, Nat.reduceBEq, cond_true, cond_false]) (by rw [HG.out]; exact j4.out) hM.out (by rw [HG.out]; exact fun _ _ h => h) (by rw [HG.out]; exact E22.out.symm))
    · intro bf ac wv hfb haf hJ K' hK
      obtain ⟨vs, rfl, hM, j4⟩ := hJ
      replace hK := Lib.hid hK
      replace hM := Lib.hid hM
      rw [HG.out] at j4
      simp [Region.binds] at haf
      have e10 := ((j4 10 (by simp [haf]))).trans E10.out
      have e22 := ((j4 22 (by simp [haf]))).trans E22.out
      replace j4 := Lib.hid j4
      clear haf hfb
      rw [HLIT.out]
      go_simp
      exact hK.out _ _ (RS.next (wv := wv) (vs := vs) 23 (x := .bool true) (by rw [HLIT.out]; simp only [upv, e10, e22, Nat.reduceBEq, cond_true, cond_false]) (by rw [HG.out]; exact j4.out) hM.out (by rw [HG.out]; exact fun _ _ h => h) (by rw [HG.out]; exact E23.out.symm))
    · intro bf ac wv hfb haf hJ K' hK
      obtain ⟨vs, rfl, hM, j4⟩ := hJ
      replace hK := Lib.hid hK
      replace hM := Lib.hid hM
      rw [HG.out] at j4
      simp [Region.binds] at haf
      have e23 := ((j4 23 (by simp [haf]))).trans E23.out
      replace j4 := Lib.hid j4
      clear haf hfb
      rw [HLIT.out]
      go_simp
      exact hK.out _ _ (RS.next (wv := wv) (vs := vs) 24 (x := .bool true) (by rw [HLIT.out]; simp only [upv, e23, Nat.reduceBEq, cond_true, cond_false]) (by rw [HG.out]; exact j4.out) hM.out (by rw [HG.out]; exact fun _ _ h => h) (by rw [HG.out]; exact E24.out.symm))
    · intro bf ac wv hfb haf hJ K' hK
      obtain ⟨vs, rfl, hM, j4⟩ := hJ
      replace hK := Lib.hid hK
      replace hM := Lib.hid hM
      rw [HG.out] at j4
      simp [Region.binds] at haf
      have e24 := ((j4 24 (by simp [haf]))).trans E24.out
      replace j4 := Lib.hid j4
      clear haf hfb
      rw [HLIT.out]
      go_simp
      exact hK.out _ _ (RS.next (wv := wv) (vs := vs) 25 (x := .int .i64 0) (by rw [HLIT.out]; simp only [upv, e24, Nat.reduceBEq, cond_true, cond_false]) (by rw [HG.out]; exact j4.out) hM.out (by rw [HG.out]; exact fun _ _ h => h) (by rw [HG.out]; exact E25.out.symm))
    · intro bf ac wv hfb haf hJ K' hK
      obtain ⟨vs, rfl, hM, j4⟩ := hJ
      replace hK := Lib.hid hK
      replace hM := Lib.hid hM
      rw [HG.out] at j4
      simp [Region.binds] at haf
      have e24 := ((j4 24 (by simp [haf]))).trans E24.out
      have e25 := ((j4 25 (by simp [haf]))).trans E25.out
      replace j4 := Lib.hid j4
      clear haf hfb
      rw [HLIT.out]
      go_simp
      exact hK.out _ _ (RS.next (wv := wv) (vs := vs) 26 (x := .bool true) (by rw [HLIT.out]; simp only [upv, e24, e25, Nat.reduceBEq, cond_true, cond_false]) (by rw [HG.out]; exact j4.out) hM.out (by rw [HG.out]; exact fun _ _ h => h) (by rw [HG.out]; exact E26.out.symm))
    · intro bf ac wv hfb haf hJ K' hK
      obtain ⟨vs, rfl, hM, j4⟩ := hJ
      replace hK := Lib.hid hK
      replace hM := Lib.hid hM
      rw [HG.out] at j4
      simp [Region.binds] at haf
      have e24 := ((j4 24 (by simp [haf]))).trans E24.out
      have e26 := ((j4 26 (by simp [haf]))).trans E26.out
      replace j4 := Lib.hid j4
      clear haf hfb
      rw [HLIT.out]
      go_simp
      exact hK.out _ _ (RS.next (wv := wv) (vs := vs) 27 (x := .bool true) (by rw [HLIT.out]; simp only [upv, e24, e26, Nat.reduceBEq, cond_true, cond_false]) (by rw [HG.out]; exact j4.out) hM.out (by rw [HG.out]; exact fun _ _ h => h) (by rw [HG.out]; exact E27.out.symm))
    · intro bf ac wv hfb haf hJ K' hK
      obtain ⟨vs, rfl, hM, j4⟩ := hJ
      replace hK := Lib.hid hK
      replace hM := Lib.hid hM
      rw [HG.out] at j4
      simp [Region.binds] at haf
      have e27 := ((j4 27 (by simp [haf]))).trans E27.out
      replace j4 := Lib.hid j4
      clear haf hfb
      rw [HLIT.out]
      go_simp
      exact hK.out _ _ (RS.next (wv := wv) (vs := vs) 28 (x := .bool true) (by rw [HLIT.out]; simp only [upv, e27, Nat.reduceBEq, cond_true, cond_false]) (by rw [HG.out]; exact j4.out) hM.out (by rw [HG.out]; exact fun _ _ h => h) (by rw [HG.out]; exact E28.out.symm))
    · intro bf ac wv hfb haf hJ K' hK
      obtain ⟨vs, rfl, hM, j4⟩ := hJ
      replace hK := Lib.hid hK
      replace hM := Lib.hid hM
      rw [HG.out] at j4
      simp [Region.binds] at haf
      have e28 := ((j4 28 (by simp [haf]))).trans E28.out
      replace j4 := Lib.hid j4
      clear haf hfb
      have K1 := KM_16.out.step hM.out
      have x0 := K1.c 0 rfl
      have xz := K1.2.2
      clear K1
      rw [HLIT.out]
      go_simp
      exact hK.out _ _ (RS.next (wv := wv) (vs := vs) 29 (x := .agg #[.slice ma L.length mc]) (by rw [HLIT.out]; simp only [upv, e28, Nat.reduceBEq, cond_true, cond_false]) (by rw [HG.out]; exact j4.out) hM.out (by rw [HG.out]; exact fun _ _ h => h) (by rw [HG.out]; exact E29.out.symm))
    · intro bf ac wv hfb haf hJ K' hK
      obtain ⟨vs, rfl, hM, j4⟩ := hJ
      replace hK := Lib.hid hK
      replace hM := Lib.hid hM
      rw [HG.out] at j4
      simp [Region.binds] at haf
      have e28 := ((j4 28 (by simp [haf]))).trans E28.out
      replace j4 := Lib.hid j4
      clear haf hfb
      have K1 := KO_17.out.step hM.out
      have x0 := K1.c 0 rfl
      have xz := K1.2.2
      clear K1
      rw [HLIT.out]
      go_simp
      exact hK.out _ _ (RS.next (wv := wv) (vs := vs) 30 (x := .agg #[.slice na L.length nc]) (by rw [HLIT.out]; simp only [upv, e28, Nat.reduceBEq, cond_true, cond_false]) (by rw [HG.out]; exact j4.out) hM.out (by rw [HG.out]; exact fun _ _ h => h) (by rw [HG.out]; exact E30.out.symm))
    · intro bf ac wv hfb haf hJ K' hK
      obtain ⟨vs, rfl, hM, j4⟩ := hJ
      replace hK := Lib.hid hK
      replace hM := Lib.hid hM
      rw [HG.out] at j4
      simp [Region.binds] at haf
      have e28 := ((j4 28 (by simp [haf]))).trans E28.out
      have e29 := ((j4 29 (by simp [haf]))).trans E29.out
      have e30 := ((j4 30 (by simp [haf]))).trans E30.out
      replace j4 := Lib.hid j4
      clear haf hfb
      rw [HLIT.out]
      go_simp
      go_at_call 15
      refine (same_any _ _ L L _ (HTM.out.step hM.out).1 (HTN.out.step hM.out).1).mono ?_
      rintro e w4 ⟨rfl, b4⟩
      rw [decide_eq_true (rfl : L = L)]
      exact hK.out _ _ (RS.next (wv := wv) (vs := vs) 31 (x := .bool true) (by rw [HLIT.out]; simp only [upv, e28, e29, e30, Nat.reduceBEq, cond_true, cond_false]) (by rw [HG.out]; exact j4.out) (keep2 b4 hM.out) (by rw [HG.out]; exact fun _ _ h => h) (by rw [HG.out]; exact E31.out.symm))
    · intro bf ac wv hfb haf hJ K' hK
      obtain ⟨vs, rfl, hM, j4⟩ := hJ
      replace hK := Lib.hid hK
      replace hM := Lib.hid hM
      rw [HG.out] at j4
      simp [Region.binds] at haf
      have e28 := ((j4 28 (by simp [haf]))).trans E28.out
      have e31 := ((j4 31 (by simp [haf]))).trans E31.out
      replace j4 := Lib.hid j4
      clear haf hfb
      rw [HLIT.out]
      go_simp
      exact hK.out _ _ (RS.next (wv := wv) (vs := vs) 32 (x := .bool true) (by rw [HLIT.out]; simp only [upv, e28, e31, Nat.reduceBEq, cond_true, cond_false]) (by rw [HG.out]; exact j4.out) hM.out (by rw [HG.out]; exact fun _ _ h => h) (by rw [HG.out]; exact E32.out.symm))
    · intro bf ac wv hfb haf hJ K' hK
      obtain ⟨vs, rfl, hM, j4⟩ := hJ
      replace hK := Lib.hid hK
      replace hM := Lib.hid hM
      rw [HG.out] at j4
      simp [Region.binds] at haf
      have e32 := ((j4 32 (by simp [haf]))).trans E32.out
      replace j4 := Lib.hid j4
      clear haf hfb
      rw [HLIT.out]
      go_simp
      exact hK.out _ _ (RS.next (wv := wv) (vs := vs) 33 (x := .bool true) (by rw [HLIT.out]; simp only [upv, e32, Nat.reduceBEq, cond_true, cond_false]) (by rw [HG.out]; exact j4.out) hM.out (by rw [HG.out]; exact fun _ _ h => h) (by rw [HG.out]; exact E33.out.symm))
  · intro bf ac wv hall hJ
    obtain ⟨vs, rfl, hM, j4⟩ := hJ
    rw [HG.out] at j4
    have e33 := ((j4 33 (hall 33 (by decide)))).trans E33.out
    have HB9 := Lib.hid (keep2 hM HB18.out)
    clear hall j4 hM
    rw [HLIT.out]
    dsimp only
    rw [e33]
    clear e33
    go_wp2
    go_ret
    exact ⟨rfl, HB9.out⟩
theorem sets_any (va : Value) (m : List Int) (x y : Int) (w : World) (ha : TgAt w va m) (hx : -9223372036854775808 ≤ x ∧ x ≤ 9223372036854775807) (hy : -9223372036854775808 ≤ y ∧ y ≤ 9223372036854775807) : Calls Try.prog 4 #[.agg #[va], .int .i64 x, .int .i64 y] w fun e w' => e = .returned (.bool true) ∧ Below w.heap.size w w' := by
  cases hf : fwB m.length
  · exact sets_few va m x y w ha hx hy hf
  · by_cases he : mgE m [x] = 0
    · cases hp : hsB m y
      · by_cases hq : x = y
        · exact sets_q va m x y w ha hx hy hf he hp hq
        · exact sets_r va m x y w ha hx hy hf he hp hq
      · exact sets_p va m x y w ha hx hy hf he hp
    · rcases (add_err he).2 with h1 | ⟨h1, h2⟩
      · exact sets_e1 va m x y w ha hx hy hf h1
      · exact sets_e30 va m x y w ha hx hy hf h1 h2
end Go.Proofs.Ytpoldplmaomkaaa
