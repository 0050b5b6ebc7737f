/- Sets of tags: the examples. -/
import Derived.Test.YtpoldplmaomkaaaRm
namespace Go.Proofs.Ytpoldplmaomkaaa
open Go.RowKit

/-- The tags of the examples. -/
def hA : Int := tg0 5 1
def hB : Int := tgN hA ⟨1, 2⟩
theorem y_mt : mtV 5 1 = .agg #[.int .i64 1, .slice none 0 0, .int .i64 hA] := by unfold mtV; rw [show mtB 5 1 = true by decide +kernel]; rfl
theorem y_nr : nrE 1 hA [] 1 2 = 0 := by decide +kernel
theorem y_st : stB [hA] = true ∧ stB [hB] = true ∧ stB ([] : List Int) = true ∧ stB [2, 1] = false := by decide +kernel
theorem y_ne : hA ≠ hB := by decide +kernel
theorem mg_one (n : Int) (h : stB [n] = true) : mgE [] [n] = 0 ∧ mgL [] [n] = [n] := by
  have h0 : stB ([] : List Int) = true := by decide
  have e : mgE [] [n] = 0 := by unfold mgE; rw [h0, h, mg_nil]; rfl
  exact ⟨e, by unfold mgL; rw [e, mg_nil]; rfl⟩
theorem y_m : ∃ M, mgE [hB] [hA] = 0 ∧ mgL [hB] [hA] = M ∧ M.length = 2 ∧ hsB M hB = true := by
  have e : mg [hB] [hA] = if hA < hB then [hA, hB] else [hB, hA] := by
    by_cases h : hA < hB
    · rw [mg_lt [] [] h, if_pos h, mg_cons_nil, mg_nil]
    · have := y_ne
      rw [mg_gt [] [] (by omega), if_neg h, mg_nil]
  have hl : (mg [hB] [hA]).length = 2 := by rw [e]; split <;> rfl
  have h1 : mgE [hB] [hA] = 0 := by unfold mgE; rw [y_st.1, y_st.2.1, hl]; rfl
  refine ⟨_, h1, rfl, ?_, ?_⟩
  · unfold mgL; rw [h1]; exact hl
  · have h2 : mgL [hB] [hA] = mg [hB] [hA] := by unfold mgL; rw [h1]; rfl
    unfold hsB
    rw [h2, mg_st y_st.2.1 y_st.1 (by rw [hl]; decide), inB_iff.2 ((mem_mg _ _ _).2 (.inl (by simp)))]; rfl
theorem y_e : mgE [2, 1] [3] = 1 ∧ mgL [2, 1] [3] = [] := by
  have e : mgE [2, 1] [3] = 1 := by unfold mgE; rw [y_st.2.2.2]; rfl
  exact ⟨e, by unfold mgL; rw [e]; rfl⟩
theorem y_ck : ckR 5 [] 1 hA [] 2 0 0 0 0 = 0 ∧ ckR 5 [] 1 hB [⟨1, 2⟩] 2 0 0 0 0 = 0 ∧ ckR 5 [hB] 1 hA [] 2 0 0 0 0 = 0 ∧ ckR 5 [hB] 1 hB [⟨1, 2⟩] 2 0 0 0 0 = 21 ∧ ckR 5 [hA] 1 hA [] 2 0 0 0 0 = 21 ∧ ckR 5 [hA] 1 hB [⟨1, 2⟩] 2 0 0 0 0 = 21 ∧ ckR 6 [hA] 1 hB [⟨1, 2⟩] 2 0 0 0 0 = 15 ∧ ckR 5 [] 1 hB [⟨1, 2⟩] 3 0 0 0 0 = 18 ∧ hsB [hB] hA = false := by decide +kernel
theorem y_bd : (-9223372036854775808 ≤ hA ∧ hA ≤ 9223372036854775807) ∧ (-9223372036854775808 ≤ hB ∧ hB ≤ 9223372036854775807) := by
  have h1 := Dg_bd [5, 1, 1]
  have h2 := Dg_bd [hA, 2, 1, 2]
  have e1 : hA = Dg [5, 1, 1] := rfl
  have e2 : hB = Dg [hA, 2, 1, 2] := rfl
  omega
theorem row_tg {w : World} {b n : Nat} {u : Value} {L0 L : List Int} (h : w.ownsRow b 3 1 u L0.length (L0.map (Value.int .i64))) (e : L0 = L) (hn : L.length = n) : ∃ a c, u = .slice a n c ∧ TgAt w (.slice a n c) L := by
  subst e hn
  obtain ⟨a, c, rfl⟩ := row_slice h
  exact ⟨a, c, rfl, tg_of_row h⟩
set_option maxRecDepth 100000 in
set_option maxHeartbeats 4000000 in
theorem head_any (w : World) : Calls Try.prog 9 #[] w fun e w' => e = .returned (.bool true) ∧ Below w.heap.size w w' := by
  have YNR := Lib.hid y_nr
  have YST := Lib.hid y_st
  have YCK := Lib.hid y_ck
  have YBD := Lib.hid y_bd
  have YMT := Lib.hid y_mt
  have YNE := Lib.hid y_ne
  obtain ⟨M, m1, m2, m3, m4⟩ := y_m
  have YM1 := Lib.hid m1
  have YM2 := Lib.hid m2
  have YM3 := Lib.hid m3
  have YM4 := Lib.hid m4
  clear m1 m2 m3 m4
  have YB := Lib.hid (show tgN hA ⟨1, 2⟩ = hB from rfl)
  obtain ⟨A, hA0⟩ : ∃ A, hA = A := ⟨_, rfl⟩
  obtain ⟨B, hB0⟩ : ∃ B, hB = B := ⟨_, rfl⟩
  rw [hA0] at YNR YST YCK YBD YMT YNE YM1 YM2 YB
  rw [hB0] at YST YCK YBD YNE YM1 YM2 YM4 YB
  clear hA0 hB0
  have HB0 := Lib.hid (Below.refl w.heap.size w)
  go_enter Try.func9, Try.ntmps9
  go_wp2_with fail
  refine (mint_any 5 1 _).mono ?_
  rintro e u1 ⟨rfl, b1⟩
  have HB1 := Lib.hid (keep2 b1 HB0.out)
  clear HB0 b1
  rw [YMT.out]
  have KC_2 := Lib.hid (Cs.new u1 (u1.heap.size) #[.int .i64 1, .slice none 0 0, .int .i64 A] 27 (by simp))
  have HB3 : Hid (Below w.heap.size w (u1.alloc (.cells #[.int .i64 1, .slice none 0 0, .int .i64 A] 27))) := HB1.out.alloc HB1.out.size _
  clear HB1
  have xC0 : (u1.alloc (.cells #[.int .i64 1, .slice none 0 0, .int .i64 A] 27)).cell? ⟨u1.heap.size, 0, none⟩ = some (.int .i64 1) := KC_2.out.c 0 rfl
  have xC1 : (u1.alloc (.cells #[.int .i64 1, .slice none 0 0, .int .i64 A] 27)).cell? ⟨u1.heap.size, 1, none⟩ = some (.slice none 0 0) := KC_2.out.c 1 rfl
  have xC2 : (u1.alloc (.cells #[.int .i64 1, .slice none 0 0, .int .i64 A] 27)).cell? ⟨u1.heap.size, 2, none⟩ = some (.int .i64 A) := KC_2.out.c 2 rfl
  have zC : u1.heap.size < (u1.alloc (.cells #[.int .i64 1, .slice none 0 0, .int .i64 A] 27)).heap.size := KC_2.out.2.2
  have z2C : u1.heap.size < (u1.alloc (.cells #[.int .i64 1, .slice none 0 0, .int .i64 A] 27)).heap.size + 1 := by omega
  go_wp2_with fail
  refine (narrow_any 1 A 1 2 _ [] _ (cvs_nil _)).mono ?_
  rintro e u21 ⟨vr, rfl, b21, hp1, -⟩
  obtain ⟨su, rfl, hs⟩ := hp1 YNR.out
  clear hp1
  rw [YNR.out, YB.out]
  have HS := Lib.hid hs
  obtain ⟨sa, sc, hsv, -⟩ := hs
  have hsv : su = .slice sa 1 sc := hsv
  subst hsv
  replace HS := Lib.hid (show CvsAt u21 (.slice sa 1 sc) [⟨1, 2⟩] from HS.out)
  clear xC0 xC1 xC2 zC z2C
  have KC_4 := Lib.hid (KC_2.out.step b21)
  clear KC_2
  have HB5 := Lib.hid (keep2 b21 HB3.out)
  clear HB3 b21
  replace HS := Lib.hid (HS.out.step (al u21 (.cells #[.int .i64 1, .slice sa 1 sc, .int .i64 B] 27)))
  have KC_6 := Lib.hid (KC_4.out.alloc (.cells #[.int .i64 1, .slice sa 1 sc, .int .i64 B] 27))
  clear KC_4
  have KD_7 := Lib.hid (Cs.new u21 (u21.heap.size) #[.int .i64 1, .slice sa 1 sc, .int .i64 B] 27 (by simp))
  have HB8 : Hid (Below w.heap.size w (u21.alloc (.cells #[.int .i64 1, .slice sa 1 sc, .int .i64 B] 27))) := HB5.out.alloc HB5.out.size _
  clear HB5
  have xD0 : (u21.alloc (.cells #[.int .i64 1, .slice sa 1 sc, .int .i64 B] 27)).cell? ⟨u21.heap.size, 0, none⟩ = some (.int .i64 1) := KD_7.out.c 0 rfl
  have xD1 : (u21.alloc (.cells #[.int .i64 1, .slice sa 1 sc, .int .i64 B] 27)).cell? ⟨u21.heap.size, 1, none⟩ = some (.slice sa 1 sc) := KD_7.out.c 1 rfl
  have xD2 : (u21.alloc (.cells #[.int .i64 1, .slice sa 1 sc, .int .i64 B] 27)).cell? ⟨u21.heap.size, 2, none⟩ = some (.int .i64 B) := KD_7.out.c 2 rfl
  have zD : u21.heap.size < (u21.alloc (.cells #[.int .i64 1, .slice sa 1 sc, .int .i64 B] 27)).heap.size := KD_7.out.2.2
  have z2D : u21.heap.size < (u21.alloc (.cells #[.int .i64 1, .slice sa 1 sc, .int .i64 B] 27)).heap.size + 1 := by omega
  go_wp2_with fail
  refine (add_any _ [] B _ (tg_nil _)).mono ?_
  rintro e u22 ⟨⟨ua, rfl, hua⟩, b22⟩
  rw [(mg_one B YST.out.2.1).1]
  obtain ⟨aa, ac, rfl, hta⟩ := row_tg hua (mg_one B YST.out.2.1).2 (n := 1) rfl
  have HTA := Lib.hid hta
  clear hua hta
  replace HS := Lib.hid (HS.out.step b22)
  clear xD0 xD1 xD2 zD z2D
  have KC_9 := Lib.hid (KC_6.out.step b22)
  clear KC_6
  have KD_10 := Lib.hid (KD_7.out.step b22)
  clear KD_7
  have HB11 := Lib.hid (keep2 b22 HB8.out)
  clear HB8 b22
  replace HS := Lib.hid (HS.out.step (al u22 (.cells #[.slice aa 1 ac] 24)))
  replace HTA := Lib.hid (HTA.out.step (al u22 (.cells #[.slice aa 1 ac] 24)))
  have KC_12 := Lib.hid (KC_9.out.alloc (.cells #[.slice aa 1 ac] 24))
  clear KC_9
  have KD_13 := Lib.hid (KD_10.out.alloc (.cells #[.slice aa 1 ac] 24))
  clear KD_10
  have Ka_14 := Lib.hid (Cs.new u22 (u22.heap.size) #[.slice aa 1 ac] 24 (by simp))
  have HB15 : Hid (Below w.heap.size w (u22.alloc (.cells #[.slice aa 1 ac] 24))) := HB11.out.alloc HB11.out.size _
  clear HB11
  have xC0 : (u22.alloc (.cells #[.slice aa 1 ac] 24)).cell? ⟨u1.heap.size, 0, none⟩ = some (.int .i64 1) := KC_12.out.c 0 rfl
  have xC1 : (u22.alloc (.cells #[.slice aa 1 ac] 24)).cell? ⟨u1.heap.size, 1, none⟩ = some (.slice none 0 0) := KC_12.out.c 1 rfl
  have xC2 : (u22.alloc (.cells #[.slice aa 1 ac] 24)).cell? ⟨u1.heap.size, 2, none⟩ = some (.int .i64 A) := KC_12.out.c 2 rfl
  have zC : u1.heap.size < (u22.alloc (.cells #[.slice aa 1 ac] 24)).heap.size := KC_12.out.2.2
  have z2C : u1.heap.size < (u22.alloc (.cells #[.slice aa 1 ac] 24)).heap.size + 1 := by omega
  go_wp2_with fail
  refine (add_any _ [] A _ (tg_nil _)).mono ?_
  rintro e u23 ⟨⟨ub, rfl, hub⟩, b23⟩
  rw [(mg_one A YST.out.1).1]
  obtain ⟨ba, bc, rfl, htb⟩ := row_tg hub (mg_one A YST.out.1).2 (n := 1) rfl
  have HTB := Lib.hid htb
  clear hub htb
  replace HS := Lib.hid (HS.out.step b23)
  replace HTA := Lib.hid (HTA.out.step b23)
  clear xC0 xC1 xC2 zC z2C
  have KC_16 := Lib.hid (KC_12.out.step b23)
  clear KC_12
  have KD_17 := Lib.hid (KD_13.out.step b23)
  clear KD_13
  have Ka_18 := Lib.hid (Ka_14.out.step b23)
  clear Ka_14
  have HB19 := Lib.hid (keep2 b23 HB15.out)
  clear HB15 b23
  replace HS := Lib.hid (HS.out.step (al u23 (.cells #[.slice ba 1 bc] 24)))
  replace HTA := Lib.hid (HTA.out.step (al u23 (.cells #[.slice ba 1 bc] 24)))
  replace HTB := Lib.hid (HTB.out.step (al u23 (.cells #[.slice ba 1 bc] 24)))
  have KC_20 := Lib.hid (KC_16.out.alloc (.cells #[.slice ba 1 bc] 24))
  clear KC_16
  have KD_21 := Lib.hid (KD_17.out.alloc (.cells #[.slice ba 1 bc] 24))
  clear KD_17
  have Ka_22 := Lib.hid (Ka_18.out.alloc (.cells #[.slice ba 1 bc] 24))
  clear Ka_18
  have Kb_23 := Lib.hid (Cs.new u23 (u23.heap.size) #[.slice ba 1 bc] 24 (by simp))
  have HB24 : Hid (Below w.heap.size w (u23.alloc (.cells #[.slice ba 1 bc] 24))) := HB19.out.alloc HB19.out.size _
  clear HB19
  have xa0 : (u23.alloc (.cells #[.slice ba 1 bc] 24)).cell? ⟨u22.heap.size, 0, none⟩ = some (.slice aa 1 ac) := Ka_22.out.c 0 rfl
  have za : u22.heap.size < (u23.alloc (.cells #[.slice ba 1 bc] 24)).heap.size := Ka_22.out.2.2
  have z2a : u22.heap.size < (u23.alloc (.cells #[.slice ba 1 bc] 24)).heap.size + 1 := by omega
  have xb0 : (u23.alloc (.cells #[.slice ba 1 bc] 24)).cell? ⟨u23.heap.size, 0, none⟩ = some (.slice ba 1 bc) := Kb_23.out.c 0 rfl
  have zb : u23.heap.size < (u23.alloc (.cells #[.slice ba 1 bc] 24)).heap.size := Kb_23.out.2.2
  have z2b : u23.heap.size < (u23.alloc (.cells #[.slice ba 1 bc] 24)).heap.size + 1 := by omega
  go_wp2_with fail
  refine (merge2_any _ _ [B] [A] _ HTA.out HTB.out).mono ?_
  rintro e u24 ⟨⟨um, rfl, hum⟩, b24⟩
  rw [YM1.out]
  obtain ⟨ma, mc, rfl, htm⟩ := row_tg hum YM2.out (n := 2) YM3.out
  have HTM := Lib.hid htm
  clear hum htm
  replace HS := Lib.hid (HS.out.step b24)
  replace HTA := Lib.hid (HTA.out.step b24)
  replace HTB := Lib.hid (HTB.out.step b24)
  clear xa0 za z2a xb0 zb z2b
  have KC_25 := Lib.hid (KC_20.out.step b24)
  clear KC_20
  have KD_26 := Lib.hid (KD_21.out.step b24)
  clear KD_21
  have Ka_27 := Lib.hid (Ka_22.out.step b24)
  clear Ka_22
  have Kb_28 := Lib.hid (Kb_23.out.step b24)
  clear Kb_23
  have HB29 := Lib.hid (keep2 b24 HB24.out)
  clear HB24 b24
  replace HS := Lib.hid (HS.out.step (al u24 (.cells #[.slice ma 2 mc] 24)))
  replace HTA := Lib.hid (HTA.out.step (al u24 (.cells #[.slice ma 2 mc] 24)))
  replace HTB := Lib.hid (HTB.out.step (al u24 (.cells #[.slice ma 2 mc] 24)))
  replace HTM := Lib.hid (HTM.out.step (al u24 (.cells #[.slice ma 2 mc] 24)))
  have KC_30 := Lib.hid (KC_25.out.alloc (.cells #[.slice ma 2 mc] 24))
  clear KC_25
  have KD_31 := Lib.hid (KD_26.out.alloc (.cells #[.slice ma 2 mc] 24))
  clear KD_26
  have Ka_32 := Lib.hid (Ka_27.out.alloc (.cells #[.slice ma 2 mc] 24))
  clear Ka_27
  have Kb_33 := Lib.hid (Kb_28.out.alloc (.cells #[.slice ma 2 mc] 24))
  clear Kb_28
  have Km_34 := Lib.hid (Cs.new u24 (u24.heap.size) #[.slice ma 2 mc] 24 (by simp))
  have HB35 : Hid (Below w.heap.size w (u24.alloc (.cells #[.slice ma 2 mc] 24))) := HB29.out.alloc HB29.out.size _
  clear HB29
  go_wp2_with fail
  replace HS := Lib.hid (HS.out.step (al (u24.alloc (.cells #[.slice ma 2 mc] 24)) (.cells #[.int .i64 2, .int .i64 1] 3)))
  replace HTA := Lib.hid (HTA.out.step (al (u24.alloc (.cells #[.slice ma 2 mc] 24)) (.cells #[.int .i64 2, .int .i64 1] 3)))
  replace HTB := Lib.hid (HTB.out.step (al (u24.alloc (.cells #[.slice ma 2 mc] 24)) (.cells #[.int .i64 2, .int .i64 1] 3)))
  replace HTM := Lib.hid (HTM.out.step (al (u24.alloc (.cells #[.slice ma 2 mc] 24)) (.cells #[.int .i64 2, .int .i64 1] 3)))
  have KC_36 := Lib.hid (KC_30.out.alloc (.cells #[.int .i64 2, .int .i64 1] 3))
  clear KC_30
  have KD_37 := Lib.hid (KD_31.out.alloc (.cells #[.int .i64 2, .int .i64 1] 3))
  clear KD_31
  have Ka_38 := Lib.hid (Ka_32.out.alloc (.cells #[.int .i64 2, .int .i64 1] 3))
  clear Ka_32
  have Kb_39 := Lib.hid (Kb_33.out.alloc (.cells #[.int .i64 2, .int .i64 1] 3))
  clear Kb_33
  have Km_40 := Lib.hid (Km_34.out.alloc (.cells #[.int .i64 2, .int .i64 1] 3))
  clear Km_34
  have HB41 : Hid (Below w.heap.size w ((u24.alloc (.cells #[.slice ma 2 mc] 24)).alloc (.cells #[.int .i64 2, .int .i64 1] 3))) := HB35.out.alloc HB35.out.size _
  clear HB35
  refine (add_any _ [2, 1] 3 _ ⟨ints_lit (u24.alloc (.cells #[.slice ma 2 mc] 24)) [2, 1] _ 3 rfl (by simp) 2 rfl (u24.heap.size + 1) (by simp), .inr ⟨_, _, _, _, rfl, Nat.le_refl _⟩⟩).mono ?_
  rintro e u25 ⟨⟨ui, rfl, hui⟩, b25⟩
  rw [y_e.1]
  obtain ⟨ia, ic, rfl, -⟩ := row_tg hui y_e.2 (n := 0) rfl
  clear hui
  replace HS := Lib.hid (HS.out.step b25)
  replace HTA := Lib.hid (HTA.out.step b25)
  replace HTB := Lib.hid (HTB.out.step b25)
  replace HTM := Lib.hid (HTM.out.step b25)
  have KC_42 := Lib.hid (KC_36.out.step b25)
  clear KC_36
  have KD_43 := Lib.hid (KD_37.out.step b25)
  clear KD_37
  have Ka_44 := Lib.hid (Ka_38.out.step b25)
  clear Ka_38
  have Kb_45 := Lib.hid (Kb_39.out.step b25)
  clear Kb_39
  have Km_46 := Lib.hid (Km_40.out.step b25)
  clear Km_40
  have HB47 := Lib.hid (keep2 b25 HB41.out)
  clear HB41 b25
  replace HS := Lib.hid (HS.out.step (al u25 (.cells #[.slice ia 0 ic] 24)))
  replace HTA := Lib.hid (HTA.out.step (al u25 (.cells #[.slice ia 0 ic] 24)))
  replace HTB := Lib.hid (HTB.out.step (al u25 (.cells #[.slice ia 0 ic] 24)))
  replace HTM := Lib.hid (HTM.out.step (al u25 (.cells #[.slice ia 0 ic] 24)))
  have KC_48 := Lib.hid (KC_42.out.alloc (.cells #[.slice ia 0 ic] 24))
  clear KC_42
  have KD_49 := Lib.hid (KD_43.out.alloc (.cells #[.slice ia 0 ic] 24))
  clear KD_43
  have Ka_50 := Lib.hid (Ka_44.out.alloc (.cells #[.slice ia 0 ic] 24))
  clear Ka_44
  have Kb_51 := Lib.hid (Kb_45.out.alloc (.cells #[.slice ia 0 ic] 24))
  clear Kb_45
  have Km_52 := Lib.hid (Km_46.out.alloc (.cells #[.slice ia 0 ic] 24))
  clear Km_46
  have Ki_53 := Lib.hid (Cs.new u25 (u25.heap.size) #[.slice ia 0 ic] 24 (by simp))
  have HB54 : Hid (Below w.heap.size w (u25.alloc (.cells #[.slice ia 0 ic] 24))) := HB47.out.alloc HB47.out.size _
  clear HB47
  replace HS := Lib.hid (HS.out.step (al (u25.alloc (.cells #[.slice ia 0 ic] 24)) (.cells #[.int .i64 2, .int .i64 0, .int .i64 0, .int .i64 0] 29)))
  replace HTA := Lib.hid (HTA.out.step (al (u25.alloc (.cells #[.slice ia 0 ic] 24)) (.cells #[.int .i64 2, .int .i64 0, .int .i64 0, .int .i64 0] 29)))
  replace HTB := Lib.hid (HTB.out.step (al (u25.alloc (.cells #[.slice ia 0 ic] 24)) (.cells #[.int .i64 2, .int .i64 0, .int .i64 0, .int .i64 0] 29)))
  replace HTM := Lib.hid (HTM.out.step (al (u25.alloc (.cells #[.slice ia 0 ic] 24)) (.cells #[.int .i64 2, .int .i64 0, .int .i64 0, .int .i64 0] 29)))
  have KC_55 := Lib.hid (KC_48.out.alloc (.cells #[.int .i64 2, .int .i64 0, .int .i64 0, .int .i64 0] 29))
  clear KC_48
  have KD_56 := Lib.hid (KD_49.out.alloc (.cells #[.int .i64 2, .int .i64 0, .int .i64 0, .int .i64 0] 29))
  clear KD_49
  have Ka_57 := Lib.hid (Ka_50.out.alloc (.cells #[.int .i64 2, .int .i64 0, .int .i64 0, .int .i64 0] 29))
  clear Ka_50
  have Kb_58 := Lib.hid (Kb_51.out.alloc (.cells #[.int .i64 2, .int .i64 0, .int .i64 0, .int .i64 0] 29))
  clear Kb_51
  have Km_59 := Lib.hid (Km_52.out.alloc (.cells #[.int .i64 2, .int .i64 0, .int .i64 0, .int .i64 0] 29))
  clear Km_52
  have Ki_60 := Lib.hid (Ki_53.out.alloc (.cells #[.int .i64 2, .int .i64 0, .int .i64 0, .int .i64 0] 29))
  clear Ki_53
  have KK_61 := Lib.hid (Cs.new (u25.alloc (.cells #[.slice ia 0 ic] 24)) (u25.heap.size + 1) #[.int .i64 2, .int .i64 0, .int .i64 0, .int .i64 0] 29 (by simp))
  have HB62 : Hid (Below w.heap.size w ((u25.alloc (.cells #[.slice ia 0 ic] 24)).alloc (.cells #[.int .i64 2, .int .i64 0, .int .i64 0, .int .i64 0] 29))) := HB54.out.alloc HB54.out.size _
  clear HB54
  replace HS := Lib.hid (HS.out.step (al ((u25.alloc (.cells #[.slice ia 0 ic] 24)).alloc (.cells #[.int .i64 2, .int .i64 0, .int .i64 0, .int .i64 0] 29)) (.cells #[.slice none 0 0] 24)))
  replace HTA := Lib.hid (HTA.out.step (al ((u25.alloc (.cells #[.slice ia 0 ic] 24)).alloc (.cells #[.int .i64 2, .int .i64 0, .int .i64 0, .int .i64 0] 29)) (.cells #[.slice none 0 0] 24)))
  replace HTB := Lib.hid (HTB.out.step (al ((u25.alloc (.cells #[.slice ia 0 ic] 24)).alloc (.cells #[.int .i64 2, .int .i64 0, .int .i64 0, .int .i64 0] 29)) (.cells #[.slice none 0 0] 24)))
  replace HTM := Lib.hid (HTM.out.step (al ((u25.alloc (.cells #[.slice ia 0 ic] 24)).alloc (.cells #[.int .i64 2, .int .i64 0, .int .i64 0, .int .i64 0] 29)) (.cells #[.slice none 0 0] 24)))
  have KC_63 := Lib.hid (KC_55.out.alloc (.cells #[.slice none 0 0] 24))
  clear KC_55
  have KD_64 := Lib.hid (KD_56.out.alloc (.cells #[.slice none 0 0] 24))
  clear KD_56
  have Ka_65 := Lib.hid (Ka_57.out.alloc (.cells #[.slice none 0 0] 24))
  clear Ka_57
  have Kb_66 := Lib.hid (Kb_58.out.alloc (.cells #[.slice none 0 0] 24))
  clear Kb_58
  have Km_67 := Lib.hid (Km_59.out.alloc (.cells #[.slice none 0 0] 24))
  clear Km_59
  have Ki_68 := Lib.hid (Ki_60.out.alloc (.cells #[.slice none 0 0] 24))
  clear Ki_60
  have KK_69 := Lib.hid (KK_61.out.alloc (.cells #[.slice none 0 0] 24))
  clear KK_61
  have Kn_70 := Lib.hid (Cs.new ((u25.alloc (.cells #[.slice ia 0 ic] 24)).alloc (.cells #[.int .i64 2, .int .i64 0, .int .i64 0, .int .i64 0] 29)) (u25.heap.size + 1 + 1) #[.slice none 0 0] 24 (by simp))
  have HB71 : Hid (Below w.heap.size w (((u25.alloc (.cells #[.slice ia 0 ic] 24)).alloc (.cells #[.int .i64 2, .int .i64 0, .int .i64 0, .int .i64 0] 29)).alloc (.cells #[.slice none 0 0] 24))) := HB62.out.alloc HB62.out.size _
  clear HB62
  have xC0 : (((u25.alloc (.cells #[.slice ia 0 ic] 24)).alloc (.cells #[.int .i64 2, .int .i64 0, .int .i64 0, .int .i64 0] 29)).alloc (.cells #[.slice none 0 0] 24)).cell? ⟨u1.heap.size, 0, none⟩ = some (.int .i64 1) := KC_63.out.c 0 rfl
  have xC1 : (((u25.alloc (.cells #[.slice ia 0 ic] 24)).alloc (.cells #[.int .i64 2, .int .i64 0, .int .i64 0, .int .i64 0] 29)).alloc (.cells #[.slice none 0 0] 24)).cell? ⟨u1.heap.size, 1, none⟩ = some (.slice none 0 0) := KC_63.out.c 1 rfl
  have xC2 : (((u25.alloc (.cells #[.slice ia 0 ic] 24)).alloc (.cells #[.int .i64 2, .int .i64 0, .int .i64 0, .int .i64 0] 29)).alloc (.cells #[.slice none 0 0] 24)).cell? ⟨u1.heap.size, 2, none⟩ = some (.int .i64 A) := KC_63.out.c 2 rfl
  have zC : u1.heap.size < (((u25.alloc (.cells #[.slice ia 0 ic] 24)).alloc (.cells #[.int .i64 2, .int .i64 0, .int .i64 0, .int .i64 0] 29)).alloc (.cells #[.slice none 0 0] 24)).heap.size := KC_63.out.2.2
  have z2C : u1.heap.size < (((u25.alloc (.cells #[.slice ia 0 ic] 24)).alloc (.cells #[.int .i64 2, .int .i64 0, .int .i64 0, .int .i64 0] 29)).alloc (.cells #[.slice none 0 0] 24)).heap.size + 1 := by omega
  have xD0 : (((u25.alloc (.cells #[.slice ia 0 ic] 24)).alloc (.cells #[.int .i64 2, .int .i64 0, .int .i64 0, .int .i64 0] 29)).alloc (.cells #[.slice none 0 0] 24)).cell? ⟨u21.heap.size, 0, none⟩ = some (.int .i64 1) := KD_64.out.c 0 rfl
  have xD1 : (((u25.alloc (.cells #[.slice ia 0 ic] 24)).alloc (.cells #[.int .i64 2, .int .i64 0, .int .i64 0, .int .i64 0] 29)).alloc (.cells #[.slice none 0 0] 24)).cell? ⟨u21.heap.size, 1, none⟩ = some (.slice sa 1 sc) := KD_64.out.c 1 rfl
  have xD2 : (((u25.alloc (.cells #[.slice ia 0 ic] 24)).alloc (.cells #[.int .i64 2, .int .i64 0, .int .i64 0, .int .i64 0] 29)).alloc (.cells #[.slice none 0 0] 24)).cell? ⟨u21.heap.size, 2, none⟩ = some (.int .i64 B) := KD_64.out.c 2 rfl
  have zD : u21.heap.size < (((u25.alloc (.cells #[.slice ia 0 ic] 24)).alloc (.cells #[.int .i64 2, .int .i64 0, .int .i64 0, .int .i64 0] 29)).alloc (.cells #[.slice none 0 0] 24)).heap.size := KD_64.out.2.2
  have z2D : u21.heap.size < (((u25.alloc (.cells #[.slice ia 0 ic] 24)).alloc (.cells #[.int .i64 2, .int .i64 0, .int .i64 0, .int .i64 0] 29)).alloc (.cells #[.slice none 0 0] 24)).heap.size + 1 := by omega
  have xm0 : (((u25.alloc (.cells #[.slice ia 0 ic] 24)).alloc (.cells #[.int .i64 2, .int .i64 0, .int .i64 0, .int .i64 0] 29)).alloc (.cells #[.slice none 0 0] 24)).cell? ⟨u24.heap.size, 0, none⟩ = some (.slice ma 2 mc) := Km_67.out.c 0 rfl
  have zm : u24.heap.size < (((u25.alloc (.cells #[.slice ia 0 ic] 24)).alloc (.cells #[.int .i64 2, .int .i64 0, .int .i64 0, .int .i64 0] 29)).alloc (.cells #[.slice none 0 0] 24)).heap.size := Km_67.out.2.2
  have z2m : u24.heap.size < (((u25.alloc (.cells #[.slice ia 0 ic] 24)).alloc (.cells #[.int .i64 2, .int .i64 0, .int .i64 0, .int .i64 0] 29)).alloc (.cells #[.slice none 0 0] 24)).heap.size + 1 := by omega
  have xK0 : (((u25.alloc (.cells #[.slice ia 0 ic] 24)).alloc (.cells #[.int .i64 2, .int .i64 0, .int .i64 0, .int .i64 0] 29)).alloc (.cells #[.slice none 0 0] 24)).cell? ⟨u25.heap.size + 1, 0, none⟩ = some (.int .i64 2) := KK_69.out.c 0 rfl
  have xK1 : (((u25.alloc (.cells #[.slice ia 0 ic] 24)).alloc (.cells #[.int .i64 2, .int .i64 0, .int .i64 0, .int .i64 0] 29)).alloc (.cells #[.slice none 0 0] 24)).cell? ⟨u25.heap.size + 1, 1, none⟩ = some (.int .i64 0) := KK_69.out.c 1 rfl
  have xK2 : (((u25.alloc (.cells #[.slice ia 0 ic] 24)).alloc (.cells #[.int .i64 2, .int .i64 0, .int .i64 0, .int .i64 0] 29)).alloc (.cells #[.slice none 0 0] 24)).cell? ⟨u25.heap.size + 1, 2, none⟩ = some (.int .i64 0) := KK_69.out.c 2 rfl
  have xK3 : (((u25.alloc (.cells #[.slice ia 0 ic] 24)).alloc (.cells #[.int .i64 2, .int .i64 0, .int .i64 0, .int .i64 0] 29)).alloc (.cells #[.slice none 0 0] 24)).cell? ⟨u25.heap.size + 1, 3, none⟩ = some (.int .i64 0) := KK_69.out.c 3 rfl
  have zK : u25.heap.size + 1 < (((u25.alloc (.cells #[.slice ia 0 ic] 24)).alloc (.cells #[.int .i64 2, .int .i64 0, .int .i64 0, .int .i64 0] 29)).alloc (.cells #[.slice none 0 0] 24)).heap.size := KK_69.out.2.2
  have z2K : u25.heap.size + 1 < (((u25.alloc (.cells #[.slice ia 0 ic] 24)).alloc (.cells #[.int .i64 2, .int .i64 0, .int .i64 0, .int .i64 0] 29)).alloc (.cells #[.slice none 0 0] 24)).heap.size + 1 := by omega
  have xn0 : (((u25.alloc (.cells #[.slice ia 0 ic] 24)).alloc (.cells #[.int .i64 2, .int .i64 0, .int .i64 0, .int .i64 0] 29)).alloc (.cells #[.slice none 0 0] 24)).cell? ⟨u25.heap.size + 1 + 1, 0, none⟩ = some (.slice none 0 0) := Kn_70.out.c 0 rfl
  have zn : u25.heap.size + 1 + 1 < (((u25.alloc (.cells #[.slice ia 0 ic] 24)).alloc (.cells #[.int .i64 2, .int .i64 0, .int .i64 0, .int .i64 0] 29)).alloc (.cells #[.slice none 0 0] 24)).heap.size := Kn_70.out.2.2
  have z2n : u25.heap.size + 1 + 1 < (((u25.alloc (.cells #[.slice ia 0 ic] 24)).alloc (.cells #[.int .i64 2, .int .i64 0, .int .i64 0, .int .i64 0] 29)).alloc (.cells #[.slice none 0 0] 24)).heap.size + 1 := by omega
  have e1 : (A == B) = false := by simpa using YNE.out
  have e2 : decide (A = B) = false := by simpa using YNE.out
  go_wp2_with fail
  refine (chk_any 5 1 A 2 0 0 0 0 _ _ [] [] _ (cvs_nil _) (ints_nil _)).mono ?_
  rintro e v2 ⟨rfl, c2⟩
  rw [show ckR 5 [] 1 A [] 2 0 0 0 0 = _ from YCK.out.1]
  replace HS := Lib.hid (HS.out.step c2)
  replace HTA := Lib.hid (HTA.out.step c2)
  replace HTB := Lib.hid (HTB.out.step c2)
  replace HTM := Lib.hid (HTM.out.step c2)
  clear xC0 xC1 xC2 zC z2C xD0 xD1 xD2 zD z2D xm0 zm z2m xK0 xK1 xK2 xK3 zK z2K xn0 zn z2n
  have KC_72 := Lib.hid (KC_63.out.step c2)
  clear KC_63
  have KD_73 := Lib.hid (KD_64.out.step c2)
  clear KD_64
  have Ka_74 := Lib.hid (Ka_65.out.step c2)
  clear Ka_65
  have Kb_75 := Lib.hid (Kb_66.out.step c2)
  clear Kb_66
  have Km_76 := Lib.hid (Km_67.out.step c2)
  clear Km_67
  have Ki_77 := Lib.hid (Ki_68.out.step c2)
  clear Ki_68
  have KK_78 := Lib.hid (KK_69.out.step c2)
  clear KK_69
  have Kn_79 := Lib.hid (Kn_70.out.step c2)
  clear Kn_70
  have HB80 := Lib.hid (keep2 c2 HB71.out)
  clear HB71 c2
  have xD0 : v2.cell? ⟨u21.heap.size, 0, none⟩ = some (.int .i64 1) := KD_73.out.c 0 rfl
  have xD1 : v2.cell? ⟨u21.heap.size, 1, none⟩ = some (.slice sa 1 sc) := KD_73.out.c 1 rfl
  have xD2 : v2.cell? ⟨u21.heap.size, 2, none⟩ = some (.int .i64 B) := KD_73.out.c 2 rfl
  have zD : u21.heap.size < v2.heap.size := KD_73.out.2.2
  have z2D : u21.heap.size < v2.heap.size + 1 := by omega
  have xK0 : v2.cell? ⟨u25.heap.size + 1, 0, none⟩ = some (.int .i64 2) := KK_78.out.c 0 rfl
  have xK1 : v2.cell? ⟨u25.heap.size + 1, 1, none⟩ = some (.int .i64 0) := KK_78.out.c 1 rfl
  have xK2 : v2.cell? ⟨u25.heap.size + 1, 2, none⟩ = some (.int .i64 0) := KK_78.out.c 2 rfl
  have xK3 : v2.cell? ⟨u25.heap.size + 1, 3, none⟩ = some (.int .i64 0) := KK_78.out.c 3 rfl
  have zK : u25.heap.size + 1 < v2.heap.size := KK_78.out.2.2
  have z2K : u25.heap.size + 1 < v2.heap.size + 1 := by omega
  have xn0 : v2.cell? ⟨u25.heap.size + 1 + 1, 0, none⟩ = some (.slice none 0 0) := Kn_79.out.c 0 rfl
  have zn : u25.heap.size + 1 + 1 < v2.heap.size := Kn_79.out.2.2
  have z2n : u25.heap.size + 1 + 1 < v2.heap.size + 1 := by omega
  go_wp2_with fail
  refine (chk_any 5 1 B 2 0 0 0 0 _ _ [] [⟨1, 2⟩] _ HS.out (ints_nil _)).mono ?_
  rintro e v3 ⟨rfl, c3⟩
  rw [show ckR 5 [] 1 B [⟨1, 2⟩] 2 0 0 0 0 = _ from YCK.out.2.1]
  replace HS := Lib.hid (HS.out.step c3)
  replace HTA := Lib.hid (HTA.out.step c3)
  replace HTB := Lib.hid (HTB.out.step c3)
  replace HTM := Lib.hid (HTM.out.step c3)
  clear xD0 xD1 xD2 zD z2D xK0 xK1 xK2 xK3 zK z2K xn0 zn z2n
  have KC_81 := Lib.hid (KC_72.out.step c3)
  clear KC_72
  have KD_82 := Lib.hid (KD_73.out.step c3)
  clear KD_73
  have Ka_83 := Lib.hid (Ka_74.out.step c3)
  clear Ka_74
  have Kb_84 := Lib.hid (Kb_75.out.step c3)
  clear Kb_75
  have Km_85 := Lib.hid (Km_76.out.step c3)
  clear Km_76
  have Ki_86 := Lib.hid (Ki_77.out.step c3)
  clear Ki_77
  have KK_87 := Lib.hid (KK_78.out.step c3)
  clear KK_78
  have Kn_88 := Lib.hid (Kn_79.out.step c3)
  clear Kn_79
  have HB89 := Lib.hid (keep2 c3 HB80.out)
  clear HB80 c3
  have xC0 : v3.cell? ⟨u1.heap.size, 0, none⟩ = some (.int .i64 1) := KC_81.out.c 0 rfl
  have xC1 : v3.cell? ⟨u1.heap.size, 1, none⟩ = some (.slice none 0 0) := KC_81.out.c 1 rfl
  have xC2 : v3.cell? ⟨u1.heap.size, 2, none⟩ = some (.int .i64 A) := KC_81.out.c 2 rfl
  have zC : u1.heap.size < v3.heap.size := KC_81.out.2.2
  have z2C : u1.heap.size < v3.heap.size + 1 := by omega
  have xa0 : v3.cell? ⟨u22.heap.size, 0, none⟩ = some (.slice aa 1 ac) := Ka_83.out.c 0 rfl
  have za : u22.heap.size < v3.heap.size := Ka_83.out.2.2
  have z2a : u22.heap.size < v3.heap.size + 1 := by omega
  have xK0 : v3.cell? ⟨u25.heap.size + 1, 0, none⟩ = some (.int .i64 2) := KK_87.out.c 0 rfl
  have xK1 : v3.cell? ⟨u25.heap.size + 1, 1, none⟩ = some (.int .i64 0) := KK_87.out.c 1 rfl
  have xK2 : v3.cell? ⟨u25.heap.size + 1, 2, none⟩ = some (.int .i64 0) := KK_87.out.c 2 rfl
  have xK3 : v3.cell? ⟨u25.heap.size + 1, 3, none⟩ = some (.int .i64 0) := KK_87.out.c 3 rfl
  have zK : u25.heap.size + 1 < v3.heap.size := KK_87.out.2.2
  have z2K : u25.heap.size + 1 < v3.heap.size + 1 := by omega
  go_wp2_with fail
  refine (chk_any 5 1 A 2 0 0 0 0 _ _ [B] [] _ (cvs_nil _) HTA.out.1).mono ?_
  rintro e v4 ⟨rfl, c4⟩
  rw [show ckR 5 [B] 1 A [] 2 0 0 0 0 = _ from YCK.out.2.2.1]
  replace HS := Lib.hid (HS.out.step c4)
  replace HTA := Lib.hid (HTA.out.step c4)
  replace HTB := Lib.hid (HTB.out.step c4)
  replace HTM := Lib.hid (HTM.out.step c4)
  clear xC0 xC1 xC2 zC z2C xa0 za z2a xK0 xK1 xK2 xK3 zK z2K
  have KC_90 := Lib.hid (KC_81.out.step c4)
  clear KC_81
  have KD_91 := Lib.hid (KD_82.out.step c4)
  clear KD_82
  have Ka_92 := Lib.hid (Ka_83.out.step c4)
  clear Ka_83
  have Kb_93 := Lib.hid (Kb_84.out.step c4)
  clear Kb_84
  have Km_94 := Lib.hid (Km_85.out.step c4)
  clear Km_85
  have Ki_95 := Lib.hid (Ki_86.out.step c4)
  clear Ki_86
  have KK_96 := Lib.hid (KK_87.out.step c4)
  clear KK_87
  have Kn_97 := Lib.hid (Kn_88.out.step c4)
  clear Kn_88
  have HB98 := Lib.hid (keep2 c4 HB89.out)
  clear HB89 c4
  have xD0 : v4.cell? ⟨u21.heap.size, 0, none⟩ = some (.int .i64 1) := KD_91.out.c 0 rfl
  have xD1 : v4.cell? ⟨u21.heap.size, 1, none⟩ = some (.slice sa 1 sc) := KD_91.out.c 1 rfl
  have xD2 : v4.cell? ⟨u21.heap.size, 2, none⟩ = some (.int .i64 B) := KD_91.out.c 2 rfl
  have zD : u21.heap.size < v4.heap.size := KD_91.out.2.2
  have z2D : u21.heap.size < v4.heap.size + 1 := by omega
  have xa0 : v4.cell? ⟨u22.heap.size, 0, none⟩ = some (.slice aa 1 ac) := Ka_92.out.c 0 rfl
  have za : u22.heap.size < v4.heap.size := Ka_92.out.2.2
  have z2a : u22.heap.size < v4.heap.size + 1 := by omega
  have xK0 : v4.cell? ⟨u25.heap.size + 1, 0, none⟩ = some (.int .i64 2) := KK_96.out.c 0 rfl
  have xK1 : v4.cell? ⟨u25.heap.size + 1, 1, none⟩ = some (.int .i64 0) := KK_96.out.c 1 rfl
  have xK2 : v4.cell? ⟨u25.heap.size + 1, 2, none⟩ = some (.int .i64 0) := KK_96.out.c 2 rfl
  have xK3 : v4.cell? ⟨u25.heap.size + 1, 3, none⟩ = some (.int .i64 0) := KK_96.out.c 3 rfl
  have zK : u25.heap.size + 1 < v4.heap.size := KK_96.out.2.2
  have z2K : u25.heap.size + 1 < v4.heap.size + 1 := by omega
  go_wp2_with fail
  refine (chk_any 5 1 B 2 0 0 0 0 _ _ [B] [⟨1, 2⟩] _ HS.out HTA.out.1).mono ?_
  rintro e v5 ⟨rfl, c5⟩
  rw [show ckR 5 [B] 1 B [⟨1, 2⟩] 2 0 0 0 0 = _ from YCK.out.2.2.2.1]
  replace HS := Lib.hid (HS.out.step c5)
  replace HTA := Lib.hid (HTA.out.step c5)
  replace HTB := Lib.hid (HTB.out.step c5)
  replace HTM := Lib.hid (HTM.out.step c5)
  clear xD0 xD1 xD2 zD z2D xa0 za z2a xK0 xK1 xK2 xK3 zK z2K
  have KC_99 := Lib.hid (KC_90.out.step c5)
  clear KC_90
  have KD_100 := Lib.hid (KD_91.out.step c5)
  clear KD_91
  have Ka_101 := Lib.hid (Ka_92.out.step c5)
  clear Ka_92
  have Kb_102 := Lib.hid (Kb_93.out.step c5)
  clear Kb_93
  have Km_103 := Lib.hid (Km_94.out.step c5)
  clear Km_94
  have Ki_104 := Lib.hid (Ki_95.out.step c5)
  clear Ki_95
  have KK_105 := Lib.hid (KK_96.out.step c5)
  clear KK_96
  have Kn_106 := Lib.hid (Kn_97.out.step c5)
  clear Kn_97
  have HB107 := Lib.hid (keep2 c5 HB98.out)
  clear HB98 c5
  have xC0 : v5.cell? ⟨u1.heap.size, 0, none⟩ = some (.int .i64 1) := KC_99.out.c 0 rfl
  have xC1 : v5.cell? ⟨u1.heap.size, 1, none⟩ = some (.slice none 0 0) := KC_99.out.c 1 rfl
  have xC2 : v5.cell? ⟨u1.heap.size, 2, none⟩ = some (.int .i64 A) := KC_99.out.c 2 rfl
  have zC : u1.heap.size < v5.heap.size := KC_99.out.2.2
  have z2C : u1.heap.size < v5.heap.size + 1 := by omega
  have xb0 : v5.cell? ⟨u23.heap.size, 0, none⟩ = some (.slice ba 1 bc) := Kb_102.out.c 0 rfl
  have zb : u23.heap.size < v5.heap.size := Kb_102.out.2.2
  have z2b : u23.heap.size < v5.heap.size + 1 := by omega
  have xK0 : v5.cell? ⟨u25.heap.size + 1, 0, none⟩ = some (.int .i64 2) := KK_105.out.c 0 rfl
  have xK1 : v5.cell? ⟨u25.heap.size + 1, 1, none⟩ = some (.int .i64 0) := KK_105.out.c 1 rfl
  have xK2 : v5.cell? ⟨u25.heap.size + 1, 2, none⟩ = some (.int .i64 0) := KK_105.out.c 2 rfl
  have xK3 : v5.cell? ⟨u25.heap.size + 1, 3, none⟩ = some (.int .i64 0) := KK_105.out.c 3 rfl
  have zK : u25.heap.size + 1 < v5.heap.size := KK_105.out.2.2
  have z2K : u25.heap.size + 1 < v5.heap.size + 1 := by omega
  go_wp2_with fail
  refine (chk_any 5 1 A 2 0 0 0 0 _ _ [A] [] _ (cvs_nil _) HTB.out.1).mono ?_
  rintro e v6 ⟨rfl, c6⟩
  rw [show ckR 5 [A] 1 A [] 2 0 0 0 0 = _ from YCK.out.2.2.2.2.1]
  replace HS := Lib.hid (HS.out.step c6)
  replace HTA := Lib.hid (HTA.out.step c6)
  replace HTB := Lib.hid (HTB.out.step c6)
  replace HTM := Lib.hid (HTM.out.step c6)
  clear xC0 xC1 xC2 zC z2C xb0 zb z2b xK0 xK1 xK2 xK3 zK z2K
  have KC_108 := Lib.hid (KC_99.out.step c6)
  clear KC_99
  have KD_109 := Lib.hid (KD_100.out.step c6)
  clear KD_100
  have Ka_110 := Lib.hid (Ka_101.out.step c6)
  clear Ka_101
  have Kb_111 := Lib.hid (Kb_102.out.step c6)
  clear Kb_102
  have Km_112 := Lib.hid (Km_103.out.step c6)
  clear Km_103
  have Ki_113 := Lib.hid (Ki_104.out.step c6)
  clear Ki_104
  have KK_114 := Lib.hid (KK_105.out.step c6)
  clear KK_105
  have Kn_115 := Lib.hid (Kn_106.out.step c6)
  clear Kn_106
  have HB116 := Lib.hid (keep2 c6 HB107.out)
  clear HB107 c6
  have xD0 : v6.cell? ⟨u21.heap.size, 0, none⟩ = some (.int .i64 1) := KD_109.out.c 0 rfl
  have xD1 : v6.cell? ⟨u21.heap.size, 1, none⟩ = some (.slice sa 1 sc) := KD_109.out.c 1 rfl
  have xD2 : v6.cell? ⟨u21.heap.size, 2, none⟩ = some (.int .i64 B) := KD_109.out.c 2 rfl
  have zD : u21.heap.size < v6.heap.size := KD_109.out.2.2
  have z2D : u21.heap.size < v6.heap.size + 1 := by omega
  have xb0 : v6.cell? ⟨u23.heap.size, 0, none⟩ = some (.slice ba 1 bc) := Kb_111.out.c 0 rfl
  have zb : u23.heap.size < v6.heap.size := Kb_111.out.2.2
  have z2b : u23.heap.size < v6.heap.size + 1 := by omega
  have xK0 : v6.cell? ⟨u25.heap.size + 1, 0, none⟩ = some (.int .i64 2) := KK_114.out.c 0 rfl
  have xK1 : v6.cell? ⟨u25.heap.size + 1, 1, none⟩ = some (.int .i64 0) := KK_114.out.c 1 rfl
  have xK2 : v6.cell? ⟨u25.heap.size + 1, 2, none⟩ = some (.int .i64 0) := KK_114.out.c 2 rfl
  have xK3 : v6.cell? ⟨u25.heap.size + 1, 3, none⟩ = some (.int .i64 0) := KK_114.out.c 3 rfl
  have zK : u25.heap.size + 1 < v6.heap.size := KK_114.out.2.2
  have z2K : u25.heap.size + 1 < v6.heap.size + 1 := by omega
  go_wp2_with fail
  refine (chk_any 5 1 B 2 0 0 0 0 _ _ [A] [⟨1, 2⟩] _ HS.out HTB.out.1).mono ?_
  rintro e v7 ⟨rfl, c7⟩
  rw [show ckR 5 [A] 1 B [⟨1, 2⟩] 2 0 0 0 0 = _ from YCK.out.2.2.2.2.2.1]
  replace HS := Lib.hid (HS.out.step c7)
  replace HTA := Lib.hid (HTA.out.step c7)
  replace HTB := Lib.hid (HTB.out.step c7)
  replace HTM := Lib.hid (HTM.out.step c7)
  clear xD0 xD1 xD2 zD z2D xb0 zb z2b xK0 xK1 xK2 xK3 zK z2K
  have KC_117 := Lib.hid (KC_108.out.step c7)
  clear KC_108
  have KD_118 := Lib.hid (KD_109.out.step c7)
  clear KD_109
  have Ka_119 := Lib.hid (Ka_110.out.step c7)
  clear Ka_110
  have Kb_120 := Lib.hid (Kb_111.out.step c7)
  clear Kb_111
  have Km_121 := Lib.hid (Km_112.out.step c7)
  clear Km_112
  have Ki_122 := Lib.hid (Ki_113.out.step c7)
  clear Ki_113
  have KK_123 := Lib.hid (KK_114.out.step c7)
  clear KK_114
  have Kn_124 := Lib.hid (Kn_115.out.step c7)
  clear Kn_115
  have HB125 := Lib.hid (keep2 c7 HB116.out)
  clear HB116 c7
  have xD0 : v7.cell? ⟨u21.heap.size, 0, none⟩ = some (.int .i64 1) := KD_118.out.c 0 rfl
  have xD1 : v7.cell? ⟨u21.heap.size, 1, none⟩ = some (.slice sa 1 sc) := KD_118.out.c 1 rfl
  have xD2 : v7.cell? ⟨u21.heap.size, 2, none⟩ = some (.int .i64 B) := KD_118.out.c 2 rfl
  have zD : u21.heap.size < v7.heap.size := KD_118.out.2.2
  have z2D : u21.heap.size < v7.heap.size + 1 := by omega
  have xb0 : v7.cell? ⟨u23.heap.size, 0, none⟩ = some (.slice ba 1 bc) := Kb_120.out.c 0 rfl
  have zb : u23.heap.size < v7.heap.size := Kb_120.out.2.2
  have z2b : u23.heap.size < v7.heap.size + 1 := by omega
  have xK0 : v7.cell? ⟨u25.heap.size + 1, 0, none⟩ = some (.int .i64 2) := KK_123.out.c 0 rfl
  have xK1 : v7.cell? ⟨u25.heap.size + 1, 1, none⟩ = some (.int .i64 0) := KK_123.out.c 1 rfl
  have xK2 : v7.cell? ⟨u25.heap.size + 1, 2, none⟩ = some (.int .i64 0) := KK_123.out.c 2 rfl
  have xK3 : v7.cell? ⟨u25.heap.size + 1, 3, none⟩ = some (.int .i64 0) := KK_123.out.c 3 rfl
  have zK : u25.heap.size + 1 < v7.heap.size := KK_123.out.2.2
  have z2K : u25.heap.size + 1 < v7.heap.size + 1 := by omega
  go_wp2_with fail
  refine (chk_any 6 1 B 2 0 0 0 0 _ _ [A] [⟨1, 2⟩] _ HS.out HTB.out.1).mono ?_
  rintro e v8 ⟨rfl, c8⟩
  rw [show ckR 6 [A] 1 B [⟨1, 2⟩] 2 0 0 0 0 = _ from YCK.out.2.2.2.2.2.2.1]
  replace HS := Lib.hid (HS.out.step c8)
  replace HTA := Lib.hid (HTA.out.step c8)
  replace HTB := Lib.hid (HTB.out.step c8)
  replace HTM := Lib.hid (HTM.out.step c8)
  clear xD0 xD1 xD2 zD z2D xb0 zb z2b xK0 xK1 xK2 xK3 zK z2K
  have KC_126 := Lib.hid (KC_117.out.step c8)
  clear KC_117
  have KD_127 := Lib.hid (KD_118.out.step c8)
  clear KD_118
  have Ka_128 := Lib.hid (Ka_119.out.step c8)
  clear Ka_119
  have Kb_129 := Lib.hid (Kb_120.out.step c8)
  clear Kb_120
  have Km_130 := Lib.hid (Km_121.out.step c8)
  clear Km_121
  have Ki_131 := Lib.hid (Ki_122.out.step c8)
  clear Ki_122
  have KK_132 := Lib.hid (KK_123.out.step c8)
  clear KK_123
  have Kn_133 := Lib.hid (Kn_124.out.step c8)
  clear Kn_124
  have HB134 := Lib.hid (keep2 c8 HB125.out)
  clear HB125 c8
  have xD0 : v8.cell? ⟨u21.heap.size, 0, none⟩ = some (.int .i64 1) := KD_127.out.c 0 rfl
  have xD1 : v8.cell? ⟨u21.heap.size, 1, none⟩ = some (.slice sa 1 sc) := KD_127.out.c 1 rfl
  have xD2 : v8.cell? ⟨u21.heap.size, 2, none⟩ = some (.int .i64 B) := KD_127.out.c 2 rfl
  have zD : u21.heap.size < v8.heap.size := KD_127.out.2.2
  have z2D : u21.heap.size < v8.heap.size + 1 := by omega
  have xn0 : v8.cell? ⟨u25.heap.size + 1 + 1, 0, none⟩ = some (.slice none 0 0) := Kn_133.out.c 0 rfl
  have zn : u25.heap.size + 1 + 1 < v8.heap.size := Kn_133.out.2.2
  have z2n : u25.heap.size + 1 + 1 < v8.heap.size + 1 := by omega
  go_wp2_with fail
  refine (chk_any 5 1 B 3 0 0 0 0 _ _ [] [⟨1, 2⟩] _ HS.out (ints_nil _)).mono ?_
  rintro e v9 ⟨rfl, c9⟩
  rw [show ckR 5 [] 1 B [⟨1, 2⟩] 3 0 0 0 0 = _ from YCK.out.2.2.2.2.2.2.2.1]
  replace HS := Lib.hid (HS.out.step c9)
  replace HTA := Lib.hid (HTA.out.step c9)
  replace HTB := Lib.hid (HTB.out.step c9)
  replace HTM := Lib.hid (HTM.out.step c9)
  clear xD0 xD1 xD2 zD z2D xn0 zn z2n
  have KC_135 := Lib.hid (KC_126.out.step c9)
  clear KC_126
  have KD_136 := Lib.hid (KD_127.out.step c9)
  clear KD_127
  have Ka_137 := Lib.hid (Ka_128.out.step c9)
  clear Ka_128
  have Kb_138 := Lib.hid (Kb_129.out.step c9)
  clear Kb_129
  have Km_139 := Lib.hid (Km_130.out.step c9)
  clear Km_130
  have Ki_140 := Lib.hid (Ki_131.out.step c9)
  clear Ki_131
  have KK_141 := Lib.hid (KK_132.out.step c9)
  clear KK_132
  have Kn_142 := Lib.hid (Kn_133.out.step c9)
  clear Kn_133
  have HB143 := Lib.hid (keep2 c9 HB134.out)
  clear HB134 c9
  have xD0 : v9.cell? ⟨u21.heap.size, 0, none⟩ = some (.int .i64 1) := KD_136.out.c 0 rfl
  have xD1 : v9.cell? ⟨u21.heap.size, 1, none⟩ = some (.slice sa 1 sc) := KD_136.out.c 1 rfl
  have xD2 : v9.cell? ⟨u21.heap.size, 2, none⟩ = some (.int .i64 B) := KD_136.out.c 2 rfl
  have zD : u21.heap.size < v9.heap.size := KD_136.out.2.2
  have z2D : u21.heap.size < v9.heap.size + 1 := by omega
  have xm0 : v9.cell? ⟨u24.heap.size, 0, none⟩ = some (.slice ma 2 mc) := Km_139.out.c 0 rfl
  have zm : u24.heap.size < v9.heap.size := Km_139.out.2.2
  have z2m : u24.heap.size < v9.heap.size + 1 := by omega
  go_wp2_with fail
  refine (has2_any _ M B _ HTM.out.1 YBD.out.2).mono ?_
  rintro e v50 ⟨rfl, c50⟩
  rw [YM4.out]
  replace HS := Lib.hid (HS.out.step c50)
  replace HTA := Lib.hid (HTA.out.step c50)
  replace HTB := Lib.hid (HTB.out.step c50)
  replace HTM := Lib.hid (HTM.out.step c50)
  clear xD0 xD1 xD2 zD z2D xm0 zm z2m
  have KC_144 := Lib.hid (KC_135.out.step c50)
  clear KC_135
  have KD_145 := Lib.hid (KD_136.out.step c50)
  clear KD_136
  have Ka_146 := Lib.hid (Ka_137.out.step c50)
  clear Ka_137
  have Kb_147 := Lib.hid (Kb_138.out.step c50)
  clear Kb_138
  have Km_148 := Lib.hid (Km_139.out.step c50)
  clear Km_139
  have Ki_149 := Lib.hid (Ki_140.out.step c50)
  clear Ki_140
  have KK_150 := Lib.hid (KK_141.out.step c50)
  clear KK_141
  have Kn_151 := Lib.hid (Kn_142.out.step c50)
  clear Kn_142
  have HB152 := Lib.hid (keep2 c50 HB143.out)
  clear HB143 c50
  have xC0 : v50.cell? ⟨u1.heap.size, 0, none⟩ = some (.int .i64 1) := KC_144.out.c 0 rfl
  have xC1 : v50.cell? ⟨u1.heap.size, 1, none⟩ = some (.slice none 0 0) := KC_144.out.c 1 rfl
  have xC2 : v50.cell? ⟨u1.heap.size, 2, none⟩ = some (.int .i64 A) := KC_144.out.c 2 rfl
  have zC : u1.heap.size < v50.heap.size := KC_144.out.2.2
  have z2C : u1.heap.size < v50.heap.size + 1 := by omega
  have xa0 : v50.cell? ⟨u22.heap.size, 0, none⟩ = some (.slice aa 1 ac) := Ka_146.out.c 0 rfl
  have za : u22.heap.size < v50.heap.size := Ka_146.out.2.2
  have z2a : u22.heap.size < v50.heap.size + 1 := by omega
  go_wp2_with fail
  refine (has2_any _ [B] A _ HTA.out.1 YBD.out.1).mono ?_
  rintro e v51 ⟨rfl, c51⟩
  rw [show hsB [B] A = false from YCK.out.2.2.2.2.2.2.2.2]
  replace HS := Lib.hid (HS.out.step c51)
  replace HTA := Lib.hid (HTA.out.step c51)
  replace HTB := Lib.hid (HTB.out.step c51)
  replace HTM := Lib.hid (HTM.out.step c51)
  clear xC0 xC1 xC2 zC z2C xa0 za z2a
  have KC_153 := Lib.hid (KC_144.out.step c51)
  clear KC_144
  have KD_154 := Lib.hid (KD_145.out.step c51)
  clear KD_145
  have Ka_155 := Lib.hid (Ka_146.out.step c51)
  clear Ka_146
  have Kb_156 := Lib.hid (Kb_147.out.step c51)
  clear Kb_147
  have Km_157 := Lib.hid (Km_148.out.step c51)
  clear Km_148
  have Ki_158 := Lib.hid (Ki_149.out.step c51)
  clear Ki_149
  have KK_159 := Lib.hid (KK_150.out.step c51)
  clear KK_150
  have Kn_160 := Lib.hid (Kn_151.out.step c51)
  clear Kn_151
  have HB161 := Lib.hid (keep2 c51 HB152.out)
  clear HB152 c51
  go_wp2
  go_ret
  exact ⟨rfl, HB161.out⟩
end Go.Proofs.Ytpoldplmaomkaaa
