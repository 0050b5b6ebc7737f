/- Law CryptoTags, the walk. -/
import Derived.Test.YtkmplekfcalggaaLh
namespace Go.Proofs.Ytkmplekfcalggaa
open Go.RowKit
theorem tgd_set (key : Int) (a : List Int) (j : Nat) (o : Int) : tgd key (a.set j o) = (tgd key a).set (j + 2) o := by simp [tgd]
theorem tgd_get (key : Int) (a : List Int) (j : Nat) : (tgd key a).getD (j + 2) 0 = a.getD j 0 := by simp [tgd]
theorem tag_set {a : List Int} {j : Nat} (key : Int) (h : j < a.length) (o : Int) : Dg (tgd key (a.set j o)) = Dg (tgd key a) ↔ o % 2147483647 = a.getD j 0 % 2147483647 := by
  rw [tgd_set, Dg_set (by simp [tgd]; exact h), tgd_get]
theorem tag_key (a : List Int) (o key : Int) : Dg (tgd o a) = Dg (tgd key a) ↔ o % 2147483647 = key % 2147483647 := Dg_replace [] ((a.length : Int) :: a) o key
theorem tgd_ne {key : Int} {a b : List Int} (h : a ≠ b) : tgd key a ≠ tgd key b := fun e => h (by unfold tgd at e; simp at e; exact e.2)
theorem rows2 {W : World} {b : Nat} {u0 u1 : Value} {x0 x1 : List Int} (hc : Cs W b #[u0, u1]) (h0 : IntsAt W u0 x0) (h1 : IntsAt W u1 x1) : RowsAt W (.slice (some ⟨b, 0, none⟩) 2 2) [x0, x1] := by
  refine ⟨_, _, rfl, by unfold maxLen; simp, fun _ => ⟨b, 0, rfl, fun i x hi => ?_⟩⟩
  rcases i with _ | _ | i
  · cases hi; exact ⟨_, hc.c 0 rfl, h0⟩
  · cases hi; exact ⟨_, hc.c 1 rfl, h1⟩
  · simp at hi
theorem cld2 {x y : List Int} (h : x ≠ y) (hd : Dg x = Dg y) : Cld [x, y] := ⟨0, 1, by simp, by simp, h, hd⟩
set_option maxRecDepth 100000 in
set_option maxHeartbeats 8000000 in
theorem tags_a (key : Int) (v : Value) (a : List Int) (v2 : Value) (b : List Int) (t o : Int) (w : World) (h : IntsAt w v a) (h2 : IntsAt w v2 b) (t0 : 0 ≤ t) (t9 : t ≤ 255) (o0 : -2147483648 ≤ o) (o9 : o ≤ 2147483647) (hl : 100 < a.length) : Calls Try.prog 5 #[.int .i64 key, v, v2, .int .u8 t, .int .i32 o] w fun e w' => e = .returned (.bool true) ∧ Below w.heap.size w w' := by
  have HA0 := Lib.hid h
  have HB0_ := Lib.hid h2
  obtain ⟨aa, ac, rfl, hm, -⟩ := h
  obtain ⟨ba, bc, rfl, hm2, -⟩ := h2
  unfold maxLen at hm hm2
  replace hl := Lib.hid hl
  have HB0 := Lib.hid (Below.refl w.heap.size w)
  go_enter Try.func5, Try.ntmps5
  go_wp2_with fail
  refine (head_any _).mono ?_
  rintro e u1 ⟨rfl, b1⟩
  have FA_1 := Lib.hid (HA0.out.step b1)
  clear HA0
  have FB_2 := Lib.hid (HB0_.out.step b1)
  clear HB0_
  have HB3 := Lib.hid (keep2 b1 HB0.out)
  clear HB0 b1
  have g1 : decide ((a.length : Int) > 100) = true := by simp; have := hl.out; omega
  have g1b : decide ((100 : Int) < a.length) = true := by simp; have := hl.out; omega
  go_wp2
  go_ret
  exact ⟨rfl, HB3.out⟩
set_option maxRecDepth 100000 in
set_option maxHeartbeats 8000000 in
theorem tags_b (key : Int) (v : Value) (a : List Int) (v2 : Value) (b : List Int) (t o : Int) (w : World) (h : IntsAt w v a) (h2 : IntsAt w v2 b) (t0 : 0 ≤ t) (t9 : t ≤ 255) (o0 : -2147483648 ≤ o) (o9 : o ≤ 2147483647) (hl : a.length ≤ 100) (hb : 100 < b.length) : Calls Try.prog 5 #[.int .i64 key, v, v2, .int .u8 t, .int .i32 o] w fun e w' => e = .returned (.bool true) ∧ Below w.heap.size w w' := by
  have HA0 := Lib.hid h
  have HB0_ := Lib.hid h2
  obtain ⟨aa, ac, rfl, hm, -⟩ := h
  obtain ⟨ba, bc, rfl, hm2, -⟩ := h2
  unfold maxLen at hm hm2
  replace hl := Lib.hid hl
  replace hb := Lib.hid hb
  have HB0 := Lib.hid (Below.refl w.heap.size w)
  go_enter Try.func5, Try.ntmps5
  go_wp2_with fail
  refine (head_any _).mono ?_
  rintro e u1 ⟨rfl, b1⟩
  have FA_1 := Lib.hid (HA0.out.step b1)
  clear HA0
  have FB_2 := Lib.hid (HB0_.out.step b1)
  clear HB0_
  have HB3 := Lib.hid (keep2 b1 HB0.out)
  clear HB0 b1
  have g1 : decide ((a.length : Int) > 100) = false := by simp; have := hl.out; omega
  have g1b : decide ((100 : Int) < a.length) = false := by simp; have := hl.out; omega
  have g2 : decide ((b.length : Int) > 100) = true := by simp; have := hb.out; omega
  have g2b : decide ((100 : Int) < b.length) = true := by simp; have := hb.out; omega
  go_wp2
  go_ret
  exact ⟨rfl, HB3.out⟩
set_option maxRecDepth 100000 in
set_option maxHeartbeats 8000000 in
theorem tags_main (key : Int) (v : Value) (a : List Int) (v2 : Value) (b : List Int) (t o : Int) (w : World) (h : IntsAt w v a) (h2 : IntsAt w v2 b) (t0 : 0 ≤ t) (t9 : t ≤ 255) (o0 : -2147483648 ≤ o) (o9 : o ≤ 2147483647) (hl : a.length ≤ 100) (hb : b.length ≤ 100) : Calls Try.prog 5 #[.int .i64 key, v, v2, .int .u8 t, .int .i32 o] w fun e w' => e = .returned (.bool true) ∧ Below w.heap.size w w' := by
  have HA0 := Lib.hid h
  have HB0_ := Lib.hid h2
  obtain ⟨aa, ac, rfl, hm, -⟩ := h
  obtain ⟨ba, bc, rfl, hm2, -⟩ := h2
  unfold maxLen at hm hm2
  replace hl := Lib.hid hl
  replace hb := Lib.hid hb
  have HB0 := Lib.hid (Below.refl w.heap.size w)
  go_enter Try.func5, Try.ntmps5
  go_wp2_with fail
  refine (head_any _).mono ?_
  rintro e u1 ⟨rfl, b1⟩
  have FA_1 := Lib.hid (HA0.out.step b1)
  clear HA0
  have FB_2 := Lib.hid (HB0_.out.step b1)
  clear HB0_
  have HB3 := Lib.hid (keep2 b1 HB0.out)
  clear HB0 b1
  have g1 : decide ((a.length : Int) > 100) = false := by simp; have := hl.out; omega
  have g1b : decide ((100 : Int) < a.length) = false := by simp; have := hl.out; omega
  have g2 : decide ((b.length : Int) > 100) = false := by simp; have := hb.out; omega
  have g2b : decide ((100 : Int) < b.length) = false := by simp; have := hb.out; omega
  go_wp2_with fail
  clear g1 g1b g2 g2b hm hm2
  refine (tagA_any key _ a _ FA_1.out (by have := hl.out; omega)).mono ?_
  rintro e u2 ⟨rfl, b2⟩
  have FA_4 := Lib.hid (FA_1.out.step b2)
  clear FA_1
  have FB_5 := Lib.hid (FB_2.out.step b2)
  clear FB_2
  have HB6 := Lib.hid (keep2 b2 HB3.out)
  clear HB3 b2
  have HK := Lib.hid (tag_key a o key)
  obtain ⟨d0, hd0⟩ : ∃ z, Dg (tgd key a) = z := ⟨_, rfl⟩
  obtain ⟨d1, hd1⟩ : ∃ z, Dg (tgd o a) = z := ⟨_, rfl⟩
  obtain ⟨d2, hd2⟩ : ∃ z, Dg (tgd key b) = z := ⟨_, rfl⟩
  obtain ⟨ro, hro⟩ : ∃ z, o % 2147483647 = z := ⟨_, rfl⟩
  obtain ⟨rk, hrk⟩ : ∃ z, key % 2147483647 = z := ⟨_, rfl⟩
  rw [hd0, hd1, hro, hrk] at HK
  rw [hd0]
  replace hd0 := Lib.hid hd0
  replace hd1 := Lib.hid hd1
  replace hd2 := Lib.hid hd2
  replace hro := Lib.hid hro
  replace hrk := Lib.hid hrk
  have q5 : wrap64 o = o := IntWalk.wrap64_in _ (by omega)
  go_wp2_with fail
  refine (tagA_any o _ a _ FA_4.out (by have := hl.out; omega)).mono ?_
  rintro e u3 ⟨rfl, b3⟩
  have FA_7 := Lib.hid (FA_4.out.step b3)
  clear FA_4
  have FB_8 := Lib.hid (FB_5.out.step b3)
  clear FB_5
  have HB9 := Lib.hid (keep2 b3 HB6.out)
  clear HB6 b3
  rw [hd1.out]
  go_wp2_with fail
  refine (rrem_any o 2147483647 _ (by omega) (by omega)).mono ?_
  rintro e w' ⟨rfl, rfl⟩
  rw [hro.out]
  go_wp2_with fail
  refine (rrem_any key 2147483647 _ (by omega) (by omega)).mono ?_
  rintro e w' ⟨rfl, rfl⟩
  rw [hrk.out]
  have HKQ := Lib.hid (show (d1 == d0) = (ro == rk) by
    by_cases hq : d1 = d0
    · rw [hq, HK.out.1 hq]; simp
    · have h2 : ro ≠ rk := fun h => hq (HK.out.2 h)
      rw [beq_eq_false_iff_ne.2 hq, beq_eq_false_iff_ne.2 h2])
  obtain ⟨bq, hbq⟩ : ∃ z, (ro == rk) = z := ⟨_, rfl⟩
  have b1 : (d1 == d0) = bq := by rw [HKQ.out, hbq]
  have b2 : (bq != bq) = false := by cases bq <;> rfl
  clear HK HKQ
  go_upto_region 7 with fail
  clear b1 b2 hbq
  go_cut [62] from 41 to 62 (fun p wc => p = .bool false ∧ Below u3.heap.size u3 wc)
  case first =>
    have HZ0 := Lib.hid (Below.refl u3.heap.size u3)
    go_wp2_with fail
    refine (tagA_any key _ b _ FB_8.out (by have := hb.out; omega)).mono ?_
    rintro e u4 ⟨rfl, b4⟩
    have FA_10 := Lib.hid (FA_7.out.step b4)
    clear FA_7
    have FB_11 := Lib.hid (FB_8.out.step b4)
    clear FB_8
    have HB12 := Lib.hid (keep2 b4 HZ0.out)
    clear HZ0 b4
    rw [hd2.out]
    by_cases hq : d0 = d2
    · have HQ := Lib.hid hq
      have t1 : (d0 == d2) = true := by simpa using hq
      have t2 : (d0 = d2) = True := by simpa using hq
      clear hq
      go_wp2_with fail
      refine (ints_any _ _ a b _ FA_10.out FB_11.out).mono ?_
      rintro e wz ⟨rfl, nz, rfl⟩
      have FA_13 := Lib.hid (FA_10.out.step (below_drewN' _ _ nz))
      clear FA_10
      have FB_14 := Lib.hid (FB_11.out.step (below_drewN' _ _ nz))
      clear FB_11
      have HZ9 := Lib.hid (HB12.out.trans (below_drewN' _ _ nz))
      clear HB12
      obtain ⟨wy, hwy⟩ : ∃ wy, World.drewN u4 nz = wy := ⟨_, rfl⟩
      rw [hwy] at HZ9 FA_13 FB_14 ⊢
      clear hwy
      by_cases he : a = b
      · rw [decide_eq_true he]
        replace he := Lib.hid he
        go_wp2
        go_meet
        case rel => exact ⟨rfl, HZ9.out⟩
      · have HE := Lib.hid he
        rw [decide_eq_false he]
        clear he
        go_wp2_with fail
        refine (rtagdA_any key _ a _ FA_13.out (by have := hl.out; omega)).mono ?_
        rintro e u5 ⟨ta, rfl, hta, b5⟩
        have FA_15 := Lib.hid (FA_13.out.step b5)
        clear FA_13
        have FB_16 := Lib.hid (FB_14.out.step b5)
        clear FB_14
        have HB17 := Lib.hid (keep2 b5 HZ9.out)
        clear HZ9 b5
        have FTA_18 := Lib.hid (hta)
        obtain ⟨taa, tac, rfl, -, -⟩ := hta
        go_wp2_with fail
        refine (rtagdA_any key _ b _ FB_16.out (by have := hb.out; omega)).mono ?_
        rintro e u6 ⟨tb, rfl, htb, b6⟩
        have FA_19 := Lib.hid (FA_15.out.step b6)
        clear FA_15
        have FB_20 := Lib.hid (FB_16.out.step b6)
        clear FB_16
        have FTA_21 := Lib.hid (FTA_18.out.step b6)
        clear FTA_18
        have HB22 := Lib.hid (keep2 b6 HB17.out)
        clear HB17 b6
        have FTB_23 := Lib.hid (htb)
        obtain ⟨tba, tbc, rfl, -, -⟩ := htb
        have FA_24 := Lib.hid (FA_19.out.step (al u6 (.cells #[.slice taa (tgd key a).length tac, .slice tba (tgd key b).length tbc] 22)))
        clear FA_19
        have FB_25 := Lib.hid (FB_20.out.step (al u6 (.cells #[.slice taa (tgd key a).length tac, .slice tba (tgd key b).length tbc] 22)))
        clear FB_20
        have FTA_26 := Lib.hid (FTA_21.out.step (al u6 (.cells #[.slice taa (tgd key a).length tac, .slice tba (tgd key b).length tbc] 22)))
        clear FTA_21
        have FTB_27 := Lib.hid (FTB_23.out.step (al u6 (.cells #[.slice taa (tgd key a).length tac, .slice tba (tgd key b).length tbc] 22)))
        clear FTB_23
        have FC2_28 := Lib.hid (Cs.new u6 (u6.heap.size) #[.slice taa (tgd key a).length tac, .slice tba (tgd key b).length tbc] 22 (by simp))
        have HB29 : Hid (Below u3.heap.size u3 (u6.alloc (.cells #[.slice taa (tgd key a).length tac, .slice tba (tgd key b).length tbc] 22))) := HB22.out.alloc HB22.out.size _
        clear HB22
        have FRR_30 := Lib.hid (rows2 FC2_28.out FTA_26.out FTB_27.out)
        go_wp2_with fail
        refine (collide_yes _ _ _ FRR_30.out (by simp) (cld2 (tgd_ne HE.out) (by rw [hd0.out, hd2.out]; exact HQ.out))).mono ?_
        rintro e u7 ⟨rfl, b7⟩
        have FA_31 := Lib.hid (FA_24.out.step b7)
        clear FA_24
        have FB_32 := Lib.hid (FB_25.out.step b7)
        clear FB_25
        have FTA_33 := Lib.hid (FTA_26.out.step b7)
        clear FTA_26
        have FTB_34 := Lib.hid (FTB_27.out.step b7)
        clear FTB_27
        have FC2_35 := Lib.hid (FC2_28.out.step b7)
        clear FC2_28
        have FRR_36 := Lib.hid (FRR_30.out.step b7)
        clear FRR_30
        have HB37 := Lib.hid (keep2 b7 HB29.out)
        clear HB29 b7
        go_wp2
        go_meet
        case rel => exact ⟨rfl, HB37.out⟩
    · have t1 : (d0 == d2) = false := by simpa using hq
      have t2 : (d0 = d2) = False := by simpa using hq
      clear hq
      go_wp2
      go_meet
      case rel => exact ⟨rfl, HB12.out⟩
  case rest =>
    obtain ⟨rfl, hbc⟩ := hcut
    have FA_10 := Lib.hid (FA_7.out.step hbc)
    clear FA_7
    have FB_11 := Lib.hid (FB_8.out.step hbc)
    clear FB_8
    have HBC := Lib.hid (keep2 hbc HB9.out)
    clear HB9 hbc hd1 hd2 hrk
    by_cases hz : a.length = 0
    · have z1 : ((a.length : Int) == 0) = true := by simp; exact List.length_eq_zero_iff.1 hz
      replace hz := Lib.hid hz
      go_wp2
      go_ret
      exact ⟨rfl, HBC.out⟩
    have z6 : ¬ a.length = 0 := hz
    have z5 : ¬ a = [] := fun h => hz (by rw [h]; rfl)
    have z1 : ((a.length : Int) == 0) = false := by simp; exact z5
    have z3 : ((a.length : Int) = 0) = False := by simp; exact z5
    obtain ⟨j, hj⟩ := Int.eq_ofNat_of_zero_le (Int.emod_nonneg t (show (a.length : Int) ≠ 0 by omega))
    have hjl : j < a.length := by have := Int.emod_lt_of_pos t (show (0 : Int) < (a.length : Int) by omega); omega
    have q1 : t.tmod (a.length : Int) = (j : Int) := by rw [Int.tmod_eq_emod_of_nonneg t0]; exact hj
    have q1b : t % (a.length : Int) = (j : Int) := hj
    have q2 : wrap64 (j : Int) = (j : Int) := IntWalk.wrap64_in _ (by have := hl.out; omega)
    have q4 : wrap64 t = t := IntWalk.wrap64_in _ (by omega)
    clear hj hz
    replace hjl := Lib.hid hjl
    obtain ⟨y3, w3, hr3, ho3, hb3⟩ := copy_run wc _ a 22 FA_10.out (by have := hl.out; omega)
    have HO3 := Lib.hid ho3
    have HBL3 := Lib.hid hb3
    clear ho3 hb3
    obtain ⟨ga, gc, rfl⟩ := row_slice HO3.out
    obtain ⟨g, rfl⟩ : ∃ g, ga = some ⟨g, 0, none⟩ := by
      rcases HO3.out.2 with ⟨-, e⟩ | ⟨g, cp, cur, e, -⟩
      · exact absurd e z6
      · exact ⟨g, by simp at e; exact e.1⟩
    obtain ⟨s1, s2, s3, s4⟩ := set_row HO3.out hjl.out
    have s5 : (j : Int) < a.length := by have := hjl.out; omega
    have s6 : (0 : Int) ≤ (j : Int) := by omega
    have s7 : j < a.length := hjl.out
    have FX := Lib.hid (ints_set (y := o) HO3.out hjl.out)
    have HBM := Lib.hid (HBL3.out.setCell (p := ⟨g, j, none⟩) s3 (.int .i64 o))
    go_wp2_with (at_builtin; refine wpList_appI rfl _ _ 22 rfl _ _ (.slice (some ⟨g, 0, none⟩) a.length gc) rfl rfl hr3 ?_)
    clear z1 z3 z5 z6 q1 q1b q2 q4 q5 s1 s2 s3 s4 s5 s6 s7 hr3 HO3 HBL3
    have FA_12 := Lib.hid (FA_10.out.step HBM.out)
    clear FA_10
    have FB_13 := Lib.hid (FB_11.out.step HBM.out)
    clear FB_11
    have HBP := Lib.hid (keep2 HBM.out HBC.out)
    clear HBC HBM
    obtain ⟨wm, hwm⟩ : ∃ wm, w3.setCell ⟨g, j, none⟩ (.int .i64 o) = wm := ⟨_, rfl⟩
    rw [hwm] at HBP FX FA_12 FB_13 ⊢
    clear hwm
    have HQ := Lib.hid (tag_set key hjl.out o)
    have HXL := Lib.hid (show (a.set j o).length = a.length from List.length_set)
    obtain ⟨dx, he1⟩ : ∃ z, Dg (tgd key (a.set j o)) = z := ⟨_, rfl⟩
    obtain ⟨a2, cap2, hva, -, hcs⟩ := FA_12.out
    obtain ⟨rfl, rfl⟩ : aa = a2 ∧ ac = cap2 := by simpa using hva
    obtain ⟨bb, off, rfl, hcs2⟩ := hcs (by intro h; have := hjl.out; rw [h] at this; simp at this)
    have x0 := hcs2 j _ (getD_of hjl.out)
    have X0 := Lib.hid x0
    clear hcs hcs2 hva x0
    obtain ⟨a3, cap3, hvb, -, hcs⟩ := FX.out
    obtain ⟨b3, off3, hb3, hcs3⟩ := hcs (by intro h; have h2 := hjl.out; have h3 := congrArg List.length h; rw [List.length_set] at h3; simp at h3; rw [h3] at h2; simp at h2)
    obtain ⟨rfl, rfl⟩ : g = b3 ∧ 0 = off3 := by rw [hb3] at hvb; simp at hvb; exact ⟨hvb.1.1, hvb.1.2⟩
    have y0 := hcs3 j o (by simp [hjl.out])
    rw [Nat.zero_add] at y0
    have Y0 := Lib.hid y0
    clear hcs hcs3 hvb hb3 y0
    generalize a.getD j 0 = y at *
    rw [he1, hd0.out] at HQ
    replace he1 := Lib.hid he1
    obtain ⟨ry, hry⟩ : ∃ z, y % 2147483647 = z := ⟨_, rfl⟩
    rw [hro.out, hry] at HQ
    replace hry := Lib.hid hry
    by_cases hq : dx = d0
    · have HRQ := Lib.hid (show (dx == d0) = true by simpa using hq)
      have HDQ := Lib.hid (show (ro == ry) = true by simpa using HQ.out.1 hq)
      clear hq HQ
      obtain ⟨lit, hlit⟩ : ∃ lit : (Nat → Value) → Act, lit = fun vs => { tmps := List.toArray (Value.int IntKind.i64 key :: Value.slice (some { block := bb, off := off }) a.length ac :: Value.slice ba b.length bc :: Value.int IntKind.u8 t :: Value.int IntKind.i32 o :: undef :: undef :: undef :: undef :: undef :: vs 20 :: Value.bool true :: Value.int IntKind.i64 d0 :: Value.int IntKind.i64 (j : Int) :: Value.slice (some { block := g, off := 0 }) a.length gc :: Value.bool true :: Value.slice (some { block := bb, off := off }) a.length ac :: Value.int IntKind.i64 (a.length : Int) :: Value.bool false :: Value.bool false :: Value.slice ba b.length bc :: Value.int IntKind.i64 (b.length : Int) :: Value.bool false :: Value.bool false :: undef :: Value.int IntKind.i64 key :: Value.slice (some { block := bb, off := off }) a.length ac :: Value.int IntKind.i64 d0 :: Value.int IntKind.i32 o :: Value.int IntKind.i64 o :: Value.slice (some { block := bb, off := off }) a.length ac :: Value.int IntKind.i64 d1 :: Value.int IntKind.i64 d0 :: Value.bool bq :: Value.int IntKind.i32 o :: Value.int IntKind.i64 o :: Value.int IntKind.i64 ro :: Value.int IntKind.i64 key :: Value.int IntKind.i64 rk :: Value.bool bq :: Value.bool false :: u41 :: u42 :: u43 :: u44 :: u45 :: u46 :: u47 :: u48 :: u49 :: u50 :: u51 :: u52 :: u53 :: u54 :: u55 :: u56 :: u57 :: u58 :: u59 :: u60 :: u61 :: Value.bool false :: Value.slice (some { block := bb, off := off }) a.length ac :: Value.int IntKind.i64 (a.length : Int) :: Value.bool false :: undef :: Value.int IntKind.u8 t :: Value.int IntKind.i64 t :: Value.slice (some { block := bb, off := off }) a.length ac :: Value.int IntKind.i64 (a.length : Int) :: Value.int IntKind.i64 (j : Int) :: Value.slice (some { block := wc.heap.size, off := 0 }) 0 0 :: Value.slice (some { block := bb, off := off }) a.length ac :: Value.slice (some { block := g, off := 0 }) a.length gc :: Value.slice (some { block := g, off := 0 }) a.length gc :: Value.int IntKind.i64 (j : Int) :: Value.int IntKind.i32 o :: Value.int IntKind.i64 o :: Value.pointer (some { block := g, off := j }) :: vs 0 :: vs 1 :: vs 2 :: vs 3 :: vs 4 :: vs 5 :: vs 6 :: vs 7 :: vs 8 :: vs 9 :: vs 10 :: vs 11 :: vs 12 :: vs 13 :: vs 14 :: vs 15 :: vs 16 :: vs 17 :: vs 18 :: vs 19 :: []), defers := [] } := ⟨_, rfl⟩
      have HLIT := Lib.hid hlit
      clear hlit
      obtain ⟨val, hval⟩ : ∃ val : List Value, val = [.bool true, .bool true, .int .i64 key, .slice (some ⟨g, 0, none⟩) a.length gc, .int .i64 dx, .int .i64 d0, .bool true, .slice (some ⟨g, 0, none⟩) a.length gc, .int .i64 j, .pointer (some ⟨g, j, none⟩), .int .i64 o, .int .i64 ro, .slice (some ⟨bb, off, none⟩) a.length ac, .int .i64 j, .pointer (some ⟨bb, off + j, none⟩), .int .i64 y, .int .i64 ry, .bool true, .bool true, .bool true, .bool true] := ⟨_, rfl⟩
      have E0 := Lib.hid (show val.getD 0 undef = .bool true by rw [hval]; rfl)
      have E1 := Lib.hid (show val.getD 1 undef = .bool true by rw [hval]; rfl)
      have E2 := Lib.hid (show val.getD 2 undef = .int .i64 key by rw [hval]; rfl)
      have E3 := Lib.hid (show val.getD 3 undef = .slice (some ⟨g, 0, none⟩) a.length gc by rw [hval]; rfl)
      have E4 := Lib.hid (show val.getD 4 undef = .int .i64 dx by rw [hval]; rfl)
      have E5 := Lib.hid (show val.getD 5 undef = .int .i64 d0 by rw [hval]; rfl)
      have E6 := Lib.hid (show val.getD 6 undef = .bool true by rw [hval]; rfl)
      have E7 := Lib.hid (show val.getD 7 undef = .slice (some ⟨g, 0, none⟩) a.length gc by rw [hval]; rfl)
      have E8 := Lib.hid (show val.getD 8 undef = .int .i64 j by rw [hval]; rfl)
      have E9 := Lib.hid (show val.getD 9 undef = .pointer (some ⟨g, j, none⟩) by rw [hval]; rfl)
      have E10 := Lib.hid (show val.getD 10 undef = .int .i64 o by rw [hval]; rfl)
      have E11 := Lib.hid (show val.getD 11 undef = .int .i64 ro by rw [hval]; rfl)
      have E12 := Lib.hid (show val.getD 12 undef = .slice (some ⟨bb, off, none⟩) a.length ac by rw [hval]; rfl)
      have E13 := Lib.hid (show val.getD 13 undef = .int .i64 j by rw [hval]; rfl)
      have E14 := Lib.hid (show val.getD 14 undef = .pointer (some ⟨bb, off + j, none⟩) by rw [hval]; rfl)
      have E15 := Lib.hid (show val.getD 15 undef = .int .i64 y by rw [hval]; rfl)
      have E16 := Lib.hid (show val.getD 16 undef = .int .i64 ry by rw [hval]; rfl)
      have E17 := Lib.hid (show val.getD 17 undef = .bool true by rw [hval]; rfl)
      have E18 := Lib.hid (show val.getD 18 undef = .bool true by rw [hval]; rfl)
      have E19 := Lib.hid (show val.getD 19 undef = .bool true by rw [hval]; rfl)
      have E20 := Lib.hid (show val.getD 20 undef = .bool true by rw [hval]; rfl)
      clear hval
      obtain ⟨G, hG0⟩ : ∃ G : Nat → Value → World → Prop, G = (fun i v w => (v = val.getD i undef)) := ⟨_, rfl⟩
      have HG := Lib.hid hG0
      clear hG0
      refine region_inv (RS lit wm G) (by kernel_rfl) (by decide +kernel) ?_ ?_ ?_
      · exact ⟨fun i => ([undef, undef, undef, undef, undef, undef, undef, undef, undef, undef, undef, undef, undef, undef, undef, undef, undef, undef, undef, undef, Value.bool false] : List Value).getD i undef, (by rw [HLIT.out]; rfl), below_drew _ _, fun i h => by cases h⟩
      · refine ⟨?_, ?_, ?_, ?_, ?_, ?_, ?_, ?_, ?_, ?_, ?_, ?_, ?_, ?_, ?_, ?_, ?_, ?_, ?_, ?_, ?_, trivial⟩
        · intro bf ac wv hfb haf hJ K' hK
          obtain ⟨vs, rfl, hM, j4⟩ := hJ
          replace hK := Lib.hid hK
          replace hM := Lib.hid hM
          rw [HG.out] at j4
          replace j4 := Lib.hid j4
          clear haf hfb
          rw [HLIT.out]
          go_simp
          exact hK.out _ _ (RS.next (wv := wv) (vs := vs) 0 (x := .bool true) (by rw [HLIT.out]; rfl) (by rw [HG.out]; exact j4.out) hM.out (by rw [HG.out]; exact fun _ _ h => h) (by rw [HG.out]; exact E0.out.symm))
        · intro bf ac wv hfb haf hJ K' hK
          obtain ⟨vs, rfl, hM, j4⟩ := hJ
          replace hK := Lib.hid hK
          replace hM := Lib.hid hM
          rw [HG.out] at j4
          simp [Region.binds] at haf
          have e0 := ((j4 0 (by simp [haf]))).trans E0.out
          replace j4 := Lib.hid j4
          clear haf hfb
          rw [HLIT.out]
          go_simp
          exact hK.out _ _ (RS.next (wv := wv) (vs := vs) 1 (x := .bool true) (by rw [HLIT.out]; simp only [upv, e0, Nat.reduceBEq, cond_true, cond_false]) (by rw [HG.out]; exact j4.out) hM.out (by rw [HG.out]; exact fun _ _ h => h) (by rw [HG.out]; exact E1.out.symm))
        · intro bf ac wv hfb haf hJ K' hK
          obtain ⟨vs, rfl, hM, j4⟩ := hJ
          replace hK := Lib.hid hK
          replace hM := Lib.hid hM
          rw [HG.out] at j4
          simp [Region.binds] at haf
          have e1 := ((j4 1 (by simp [haf]))).trans E1.out
          replace j4 := Lib.hid j4
          clear haf hfb
          rw [HLIT.out]
          go_simp
          exact hK.out _ _ (RS.next (wv := wv) (vs := vs) 2 (x := .int .i64 key) (by rw [HLIT.out]; simp only [upv, e1, Nat.reduceBEq, cond_true, cond_false]) (by rw [HG.out]; exact j4.out) hM.out (by rw [HG.out]; exact fun _ _ h => h) (by rw [HG.out]; exact E2.out.symm))
        · intro bf ac wv hfb haf hJ K' hK
          obtain ⟨vs, rfl, hM, j4⟩ := hJ
          replace hK := Lib.hid hK
          replace hM := Lib.hid hM
          rw [HG.out] at j4
          simp [Region.binds] at haf
          have e1 := ((j4 1 (by simp [haf]))).trans E1.out
          replace j4 := Lib.hid j4
          clear haf hfb
          rw [HLIT.out]
          go_simp
          exact hK.out _ _ (RS.next (wv := wv) (vs := vs) 3 (x := .slice (some ⟨g, 0, none⟩) a.length gc) (by rw [HLIT.out]; simp only [upv, e1, Nat.reduceBEq, cond_true, cond_false]) (by rw [HG.out]; exact j4.out) hM.out (by rw [HG.out]; exact fun _ _ h => h) (by rw [HG.out]; exact E3.out.symm))
        · intro bf ac wv hfb haf hJ K' hK
          obtain ⟨vs, rfl, hM, j4⟩ := hJ
          replace hK := Lib.hid hK
          replace hM := Lib.hid hM
          rw [HG.out] at j4
          simp [Region.binds] at haf
          have e1 := ((j4 1 (by simp [haf]))).trans E1.out
          have e2 := ((j4 2 (by simp [haf]))).trans E2.out
          have e3 := ((j4 3 (by simp [haf]))).trans E3.out
          replace j4 := Lib.hid j4
          clear haf hfb
          rw [HLIT.out]
          go_simp
          go_at_call 17
          refine (tagA_any key _ (a.set j o) _ (FX.out.step hM.out) (by rw [HXL.out]; have := hl.out; omega)).mono ?_
          rintro e w4 ⟨rfl, b4⟩
          rw [he1.out]
          exact hK.out _ _ (RS.next (wv := wv) (vs := vs) 4 (x := .int .i64 dx) (by rw [HLIT.out]; simp only [upv, e1, e2, e3, Nat.reduceBEq, cond_true, cond_false]) (by rw [HG.out]; exact j4.out) (keep2 b4 hM.out) (by rw [HG.out]; exact fun _ _ h => h) (by rw [HG.out]; exact E4.out.symm))
        · intro bf ac wv hfb haf hJ K' hK
          obtain ⟨vs, rfl, hM, j4⟩ := hJ
          replace hK := Lib.hid hK
          replace hM := Lib.hid hM
          rw [HG.out] at j4
          simp [Region.binds] at haf
          have e1 := ((j4 1 (by simp [haf]))).trans E1.out
          replace j4 := Lib.hid j4
          clear haf hfb
          rw [HLIT.out]
          go_simp
          exact hK.out _ _ (RS.next (wv := wv) (vs := vs) 5 (x := .int .i64 d0) (by rw [HLIT.out]; simp only [upv, e1, Nat.reduceBEq, cond_true, cond_false]) (by rw [HG.out]; exact j4.out) hM.out (by rw [HG.out]; exact fun _ _ h => h) (by rw [HG.out]; exact E5.out.symm))
        · intro bf ac wv hfb haf hJ K' hK
          obtain ⟨vs, rfl, hM, j4⟩ := hJ
          replace hK := Lib.hid hK
          replace hM := Lib.hid hM
          rw [HG.out] at j4
          simp [Region.binds] at haf
          have e1 := ((j4 1 (by simp [haf]))).trans E1.out
          have e4 := ((j4 4 (by simp [haf]))).trans E4.out
          have e5 := ((j4 5 (by simp [haf]))).trans E5.out
          replace j4 := Lib.hid j4
          clear haf hfb
          have q1 := HRQ.out
          have q2 : (dx = d0) = True := by have := HRQ.out; simpa using this
          rw [HLIT.out]
          go_simp
          exact hK.out _ _ (RS.next (wv := wv) (vs := vs) 6 (x := .bool true) (by rw [HLIT.out]; simp only [upv, e1, e4, e5, Nat.reduceBEq, cond_true, cond_false]) (by rw [HG.out]; exact j4.out) hM.out (by rw [HG.out]; exact fun _ _ h => h) (by rw [HG.out]; exact E6.out.symm))
        · intro bf ac wv hfb haf hJ K' hK
          obtain ⟨vs, rfl, hM, j4⟩ := hJ
          replace hK := Lib.hid hK
          replace hM := Lib.hid hM
          rw [HG.out] at j4
          simp [Region.binds] at haf
          have e1 := ((j4 1 (by simp [haf]))).trans E1.out
          replace j4 := Lib.hid j4
          clear haf hfb
          rw [HLIT.out]
          go_simp
          exact hK.out _ _ (RS.next (wv := wv) (vs := vs) 7 (x := .slice (some ⟨g, 0, none⟩) a.length gc) (by rw [HLIT.out]; simp only [upv, e1, Nat.reduceBEq, cond_true, cond_false]) (by rw [HG.out]; exact j4.out) hM.out (by rw [HG.out]; exact fun _ _ h => h) (by rw [HG.out]; exact E7.out.symm))
        · intro bf ac wv hfb haf hJ K' hK
          obtain ⟨vs, rfl, hM, j4⟩ := hJ
          replace hK := Lib.hid hK
          replace hM := Lib.hid hM
          rw [HG.out] at j4
          simp [Region.binds] at haf
          have e1 := ((j4 1 (by simp [haf]))).trans E1.out
          replace j4 := Lib.hid j4
          clear haf hfb
          rw [HLIT.out]
          go_simp
          exact hK.out _ _ (RS.next (wv := wv) (vs := vs) 8 (x := .int .i64 j) (by rw [HLIT.out]; simp only [upv, e1, Nat.reduceBEq, cond_true, cond_false]) (by rw [HG.out]; exact j4.out) hM.out (by rw [HG.out]; exact fun _ _ h => h) (by rw [HG.out]; exact E8.out.symm))
        · intro bf ac wv hfb haf hJ K' hK
          obtain ⟨vs, rfl, hM, j4⟩ := hJ
          replace hK := Lib.hid hK
          replace hM := Lib.hid hM
          rw [HG.out] at j4
          simp [Region.binds] at haf
          have e1 := ((j4 1 (by simp [haf]))).trans E1.out
          have e7 := ((j4 7 (by simp [haf]))).trans E7.out
          have e8 := ((j4 8 (by simp [haf]))).trans E8.out
          replace j4 := Lib.hid j4
          clear haf hfb
          have hn1 : (j : Int) < a.length := by have := hjl.out; omega
          have hn2 : (0 : Int) ≤ (j : Int) := by omega
          have hn3 : j < a.length := hjl.out
          rw [HLIT.out]
          go_simp
          exact hK.out _ _ (RS.next (wv := wv) (vs := vs) 9 (x := .pointer (some ⟨g, j, none⟩)) (by rw [HLIT.out]; simp only [upv, e1, e7, e8, Nat.reduceBEq, cond_true, cond_false]) (by rw [HG.out]; exact j4.out) hM.out (by rw [HG.out]; exact fun _ _ h => h) (by rw [HG.out]; exact E9.out.symm))
        · intro bf ac wv hfb haf hJ K' hK
          obtain ⟨vs, rfl, hM, j4⟩ := hJ
          replace hK := Lib.hid hK
          replace hM := Lib.hid hM
          rw [HG.out] at j4
          simp [Region.binds] at haf
          have e1 := ((j4 1 (by simp [haf]))).trans E1.out
          have e9 := ((j4 9 (by simp [haf]))).trans E9.out
          replace j4 := Lib.hid j4
          clear haf hfb
          have xg := keep1 hM.out Y0.out
          have xgz := World.block_lt_of_cell? _ _ xg
          have xgz : g < wv.heap.size := xgz
          rw [HLIT.out]
          go_simp
          exact hK.out _ _ (RS.next (wv := wv) (vs := vs) 10 (x := .int .i64 o) (by rw [HLIT.out]; simp only [upv, e1, e9, Nat.reduceBEq, cond_true, cond_false]) (by rw [HG.out]; exact j4.out) hM.out (by rw [HG.out]; exact fun _ _ h => h) (by rw [HG.out]; exact E10.out.symm))
        · intro bf ac wv hfb haf hJ K' hK
          obtain ⟨vs, rfl, hM, j4⟩ := hJ
          replace hK := Lib.hid hK
          replace hM := Lib.hid hM
          rw [HG.out] at j4
          simp [Region.binds] at haf
          have e1 := ((j4 1 (by simp [haf]))).trans E1.out
          have e10 := ((j4 10 (by simp [haf]))).trans E10.out
          replace j4 := Lib.hid j4
          clear haf hfb
          rw [HLIT.out]
          go_simp
          go_at_call 29
          refine (rrem_any o 2147483647 _ (by omega) (by omega)).mono ?_
          rintro e w4 ⟨rfl, rfl⟩
          have b4 := Below.refl wv.heap.size wv
          rw [hro.out]
          exact hK.out _ _ (RS.next (wv := wv) (vs := vs) 11 (x := .int .i64 ro) (by rw [HLIT.out]; simp only [upv, e1, e10, Nat.reduceBEq, cond_true, cond_false]) (by rw [HG.out]; exact j4.out) (keep2 b4 hM.out) (by rw [HG.out]; exact fun _ _ h => h) (by rw [HG.out]; exact E11.out.symm))
        · intro bf ac wv hfb haf hJ K' hK
          obtain ⟨vs, rfl, hM, j4⟩ := hJ
          replace hK := Lib.hid hK
          replace hM := Lib.hid hM
          rw [HG.out] at j4
          simp [Region.binds] at haf
          have e1 := ((j4 1 (by simp [haf]))).trans E1.out
          replace j4 := Lib.hid j4
          clear haf hfb
          rw [HLIT.out]
          go_simp
          exact hK.out _ _ (RS.next (wv := wv) (vs := vs) 12 (x := .slice (some ⟨bb, off, none⟩) a.length ac) (by rw [HLIT.out]; simp only [upv, e1, Nat.reduceBEq, cond_true, cond_false]) (by rw [HG.out]; exact j4.out) hM.out (by rw [HG.out]; exact fun _ _ h => h) (by rw [HG.out]; exact E12.out.symm))
        · intro bf ac wv hfb haf hJ K' hK
          obtain ⟨vs, rfl, hM, j4⟩ := hJ
          replace hK := Lib.hid hK
          replace hM := Lib.hid hM
          rw [HG.out] at j4
          simp [Region.binds] at haf
          have e1 := ((j4 1 (by simp [haf]))).trans E1.out
          replace j4 := Lib.hid j4
          clear haf hfb
          rw [HLIT.out]
          go_simp
          exact hK.out _ _ (RS.next (wv := wv) (vs := vs) 13 (x := .int .i64 j) (by rw [HLIT.out]; simp only [upv, e1, Nat.reduceBEq, cond_true, cond_false]) (by rw [HG.out]; exact j4.out) hM.out (by rw [HG.out]; exact fun _ _ h => h) (by rw [HG.out]; exact E13.out.symm))
        · intro bf ac wv hfb haf hJ K' hK
          obtain ⟨vs, rfl, hM, j4⟩ := hJ
          replace hK := Lib.hid hK
          replace hM := Lib.hid hM
          rw [HG.out] at j4
          simp [Region.binds] at haf
          have e1 := ((j4 1 (by simp [haf]))).trans E1.out
          have e12 := ((j4 12 (by simp [haf]))).trans E12.out
          have e13 := ((j4 13 (by simp [haf]))).trans E13.out
          replace j4 := Lib.hid j4
          clear haf hfb
          have hn1 : (j : Int) < a.length := by have := hjl.out; omega
          have hn2 : (0 : Int) ≤ (j : Int) := by omega
          have hn3 : j < a.length := hjl.out
          rw [HLIT.out]
          go_simp
          exact hK.out _ _ (RS.next (wv := wv) (vs := vs) 14 (x := .pointer (some ⟨bb, off + j, none⟩)) (by rw [HLIT.out]; simp only [upv, e1, e12, e13, Nat.reduceBEq, cond_true, cond_false]) (by rw [HG.out]; exact j4.out) hM.out (by rw [HG.out]; exact fun _ _ h => h) (by rw [HG.out]; exact E14.out.symm))
        · intro bf ac wv hfb haf hJ K' hK
          obtain ⟨vs, rfl, hM, j4⟩ := hJ
          replace hK := Lib.hid hK
          replace hM := Lib.hid hM
          rw [HG.out] at j4
          simp [Region.binds] at haf
          have e1 := ((j4 1 (by simp [haf]))).trans E1.out
          have e14 := ((j4 14 (by simp [haf]))).trans E14.out
          replace j4 := Lib.hid j4
          clear haf hfb
          have xg := keep1 hM.out X0.out
          have xgz := World.block_lt_of_cell? _ _ xg
          have xgz : bb < wv.heap.size := xgz
          rw [HLIT.out]
          go_simp
          exact hK.out _ _ (RS.next (wv := wv) (vs := vs) 15 (x := .int .i64 y) (by rw [HLIT.out]; simp only [upv, e1, e14, Nat.reduceBEq, cond_true, cond_false]) (by rw [HG.out]; exact j4.out) hM.out (by rw [HG.out]; exact fun _ _ h => h) (by rw [HG.out]; exact E15.out.symm))
        · intro bf ac wv hfb haf hJ K' hK
          obtain ⟨vs, rfl, hM, j4⟩ := hJ
          replace hK := Lib.hid hK
          replace hM := Lib.hid hM
          rw [HG.out] at j4
          simp [Region.binds] at haf
          have e1 := ((j4 1 (by simp [haf]))).trans E1.out
          have e15 := ((j4 15 (by simp [haf]))).trans E15.out
          replace j4 := Lib.hid j4
          clear haf hfb
          rw [HLIT.out]
          go_simp
          go_at_call 29
          refine (rrem_any y 2147483647 _ (by omega) (by omega)).mono ?_
          rintro e w4 ⟨rfl, rfl⟩
          have b4 := Below.refl wv.heap.size wv
          rw [hry.out]
          exact hK.out _ _ (RS.next (wv := wv) (vs := vs) 16 (x := .int .i64 ry) (by rw [HLIT.out]; simp only [upv, e1, e15, Nat.reduceBEq, cond_true, cond_false]) (by rw [HG.out]; exact j4.out) (keep2 b4 hM.out) (by rw [HG.out]; exact fun _ _ h => h) (by rw [HG.out]; exact E16.out.symm))
        · intro bf ac wv hfb haf hJ K' hK
          obtain ⟨vs, rfl, hM, j4⟩ := hJ
          replace hK := Lib.hid hK
          replace hM := Lib.hid hM
          rw [HG.out] at j4
          simp [Region.binds] at haf
          have e1 := ((j4 1 (by simp [haf]))).trans E1.out
          have e11 := ((j4 11 (by simp [haf]))).trans E11.out
          have e16 := ((j4 16 (by simp [haf]))).trans E16.out
          replace j4 := Lib.hid j4
          clear haf hfb
          have q1 := HDQ.out
          have q2 : (ro = ry) = True := by have := HDQ.out; simpa using this
          rw [HLIT.out]
          go_simp
          exact hK.out _ _ (RS.next (wv := wv) (vs := vs) 17 (x := .bool true) (by rw [HLIT.out]; simp only [upv, e1, e11, e16, Nat.reduceBEq, cond_true, cond_false]) (by rw [HG.out]; exact j4.out) hM.out (by rw [HG.out]; exact fun _ _ h => h) (by rw [HG.out]; exact E17.out.symm))
        · intro bf ac wv hfb haf hJ K' hK
          obtain ⟨vs, rfl, hM, j4⟩ := hJ
          replace hK := Lib.hid hK
          replace hM := Lib.hid hM
          rw [HG.out] at j4
          simp [Region.binds] at haf
          have e1 := ((j4 1 (by simp [haf]))).trans E1.out
          have e6 := ((j4 6 (by simp [haf]))).trans E6.out
          have e17 := ((j4 17 (by simp [haf]))).trans E17.out
          replace j4 := Lib.hid j4
          clear haf hfb
          rw [HLIT.out]
          go_simp
          exact hK.out _ _ (RS.next (wv := wv) (vs := vs) 18 (x := .bool true) (by rw [HLIT.out]; simp only [upv, e1, e6, e17, Nat.reduceBEq, cond_true, cond_false]) (by rw [HG.out]; exact j4.out) hM.out (by rw [HG.out]; exact fun _ _ h => h) (by rw [HG.out]; exact E18.out.symm))
        · intro bf ac wv hfb haf hJ K' hK
          obtain ⟨vs, rfl, hM, j4⟩ := hJ
          replace hK := Lib.hid hK
          replace hM := Lib.hid hM
          rw [HG.out] at j4
          simp [Region.binds] at haf
          have e1 := ((j4 1 (by simp [haf]))).trans E1.out
          have e18 := ((j4 18 (by simp [haf]))).trans E18.out
          replace j4 := Lib.hid j4
          clear haf hfb
          rw [HLIT.out]
          go_simp
          exact hK.out _ _ (RS.next (wv := wv) (vs := vs) 19 (x := .bool true) (by rw [HLIT.out]; simp only [upv, e1, e18, Nat.reduceBEq, cond_true, cond_false]) (by rw [HG.out]; exact j4.out) hM.out (by rw [HG.out]; exact fun _ _ h => h) (by rw [HG.out]; exact E19.out.symm))
        · intro bf ac wv hfb haf hJ K' hK
          obtain ⟨vs, rfl, hM, j4⟩ := hJ
          replace hK := Lib.hid hK
          replace hM := Lib.hid hM
          rw [HG.out] at j4
          simp [Region.binds] at haf
          have e19 := ((j4 19 (by simp [haf]))).trans E19.out
          replace j4 := Lib.hid j4
          clear haf hfb
          rw [HLIT.out]
          go_simp
          exact hK.out _ _ (RS.next (wv := wv) (vs := vs) 20 (x := .bool true) (by rw [HLIT.out]; simp only [upv, e19, Nat.reduceBEq, cond_true, cond_false]) (by rw [HG.out]; exact j4.out) hM.out (by rw [HG.out]; exact fun _ _ h => h) (by rw [HG.out]; exact E20.out.symm))
      · intro bf ac wv hall hJ
        obtain ⟨vs, rfl, hM, j4⟩ := hJ
        rw [HG.out] at j4
        have e20 := ((j4 20 (hall 20 (by decide)))).trans E20.out
        have HB9 := Lib.hid (keep2 hM HBP.out)
        clear hM hall j4
        rw [HLIT.out]
        dsimp only
        rw [e20]
        clear e20
        go_wp2
        go_ret
        exact ⟨rfl, HB9.out⟩
    · have HRQ := Lib.hid (show (dx == d0) = false by simpa using hq)
      have HDQ := Lib.hid (show (ro == ry) = false by simpa using fun h => hq (HQ.out.2 h))
      clear hq HQ
      obtain ⟨lit, hlit⟩ : ∃ lit : (Nat → Value) → Act, lit = fun vs => { tmps := List.toArray (Value.int IntKind.i64 key :: Value.slice (some { block := bb, off := off }) a.length ac :: Value.slice ba b.length bc :: Value.int IntKind.u8 t :: Value.int IntKind.i32 o :: undef :: undef :: undef :: undef :: undef :: vs 20 :: Value.bool true :: Value.int IntKind.i64 d0 :: Value.int IntKind.i64 (j : Int) :: Value.slice (some { block := g, off := 0 }) a.length gc :: Value.bool true :: Value.slice (some { block := bb, off := off }) a.length ac :: Value.int IntKind.i64 (a.length : Int) :: Value.bool false :: Value.bool false :: Value.slice ba b.length bc :: Value.int IntKind.i64 (b.length : Int) :: Value.bool false :: Value.bool false :: undef :: Value.int IntKind.i64 key :: Value.slice (some { block := bb, off := off }) a.length ac :: Value.int IntKind.i64 d0 :: Value.int IntKind.i32 o :: Value.int IntKind.i64 o :: Value.slice (some { block := bb, off := off }) a.length ac :: Value.int IntKind.i64 d1 :: Value.int IntKind.i64 d0 :: Value.bool bq :: Value.int IntKind.i32 o :: Value.int IntKind.i64 o :: Value.int IntKind.i64 ro :: Value.int IntKind.i64 key :: Value.int IntKind.i64 rk :: Value.bool bq :: Value.bool false :: u41 :: u42 :: u43 :: u44 :: u45 :: u46 :: u47 :: u48 :: u49 :: u50 :: u51 :: u52 :: u53 :: u54 :: u55 :: u56 :: u57 :: u58 :: u59 :: u60 :: u61 :: Value.bool false :: Value.slice (some { block := bb, off := off }) a.length ac :: Value.int IntKind.i64 (a.length : Int) :: Value.bool false :: undef :: Value.int IntKind.u8 t :: Value.int IntKind.i64 t :: Value.slice (some { block := bb, off := off }) a.length ac :: Value.int IntKind.i64 (a.length : Int) :: Value.int IntKind.i64 (j : Int) :: Value.slice (some { block := wc.heap.size, off := 0 }) 0 0 :: Value.slice (some { block := bb, off := off }) a.length ac :: Value.slice (some { block := g, off := 0 }) a.length gc :: Value.slice (some { block := g, off := 0 }) a.length gc :: Value.int IntKind.i64 (j : Int) :: Value.int IntKind.i32 o :: Value.int IntKind.i64 o :: Value.pointer (some { block := g, off := j }) :: vs 0 :: vs 1 :: vs 2 :: vs 3 :: vs 4 :: vs 5 :: vs 6 :: vs 7 :: vs 8 :: vs 9 :: vs 10 :: vs 11 :: vs 12 :: vs 13 :: vs 14 :: vs 15 :: vs 16 :: vs 17 :: vs 18 :: vs 19 :: []), defers := [] } := ⟨_, rfl⟩
      have HLIT := Lib.hid hlit
      clear hlit
      obtain ⟨val, hval⟩ : ∃ val : List Value, val = [.bool true, .bool true, .int .i64 key, .slice (some ⟨g, 0, none⟩) a.length gc, .int .i64 dx, .int .i64 d0, .bool false, .slice (some ⟨g, 0, none⟩) a.length gc, .int .i64 j, .pointer (some ⟨g, j, none⟩), .int .i64 o, .int .i64 ro, .slice (some ⟨bb, off, none⟩) a.length ac, .int .i64 j, .pointer (some ⟨bb, off + j, none⟩), .int .i64 y, .int .i64 ry, .bool false, .bool true, .bool true, .bool true] := ⟨_, rfl⟩
      have E0 := Lib.hid (show val.getD 0 undef = .bool true by rw [hval]; rfl)
      have E1 := Lib.hid (show val.getD 1 undef = .bool true by rw [hval]; rfl)
      have E2 := Lib.hid (show val.getD 2 undef = .int .i64 key by rw [hval]; rfl)
      have E3 := Lib.hid (show val.getD 3 undef = .slice (some ⟨g, 0, none⟩) a.length gc by rw [hval]; rfl)
      have E4 := Lib.hid (show val.getD 4 undef = .int .i64 dx by rw [hval]; rfl)
      have E5 := Lib.hid (show val.getD 5 undef = .int .i64 d0 by rw [hval]; rfl)
      have E6 := Lib.hid (show val.getD 6 undef = .bool false by rw [hval]; rfl)
      have E7 := Lib.hid (show val.getD 7 undef = .slice (some ⟨g, 0, none⟩) a.length gc by rw [hval]; rfl)
      have E8 := Lib.hid (show val.getD 8 undef = .int .i64 j by rw [hval]; rfl)
      have E9 := Lib.hid (show val.getD 9 undef = .pointer (some ⟨g, j, none⟩) by rw [hval]; rfl)
      have E10 := Lib.hid (show val.getD 10 undef = .int .i64 o by rw [hval]; rfl)
      have E11 := Lib.hid (show val.getD 11 undef = .int .i64 ro by rw [hval]; rfl)
      have E12 := Lib.hid (show val.getD 12 undef = .slice (some ⟨bb, off, none⟩) a.length ac by rw [hval]; rfl)
      have E13 := Lib.hid (show val.getD 13 undef = .int .i64 j by rw [hval]; rfl)
      have E14 := Lib.hid (show val.getD 14 undef = .pointer (some ⟨bb, off + j, none⟩) by rw [hval]; rfl)
      have E15 := Lib.hid (show val.getD 15 undef = .int .i64 y by rw [hval]; rfl)
      have E16 := Lib.hid (show val.getD 16 undef = .int .i64 ry by rw [hval]; rfl)
      have E17 := Lib.hid (show val.getD 17 undef = .bool false by rw [hval]; rfl)
      have E18 := Lib.hid (show val.getD 18 undef = .bool true by rw [hval]; rfl)
      have E19 := Lib.hid (show val.getD 19 undef = .bool true by rw [hval]; rfl)
      have E20 := Lib.hid (show val.getD 20 undef = .bool true by rw [hval]; rfl)
      clear hval
      obtain ⟨G, hG0⟩ : ∃ G : Nat → Value → World → Prop, G = (fun i v w => (v = val.getD i undef)) := ⟨_, rfl⟩
      have HG := Lib.hid hG0
      clear hG0
      refine region_inv (RS lit wm G) (by kernel_rfl) (by decide +kernel) ?_ ?_ ?_
      · exact ⟨fun i => ([undef, undef, undef, undef, undef, undef, undef, undef, undef, undef, undef, undef, undef, undef, undef, undef, undef, undef, undef, undef, Value.bool false] : List Value).getD i undef, (by rw [HLIT.out]; rfl), below_drew _ _, fun i h => by cases h⟩
      · refine ⟨?_, ?_, ?_, ?_, ?_, ?_, ?_, ?_, ?_, ?_, ?_, ?_, ?_, ?_, ?_, ?_, ?_, ?_, ?_, ?_, ?_, trivial⟩
        · intro bf ac wv hfb haf hJ K' hK
          obtain ⟨vs, rfl, hM, j4⟩ := hJ
          replace hK := Lib.hid hK
          replace hM := Lib.hid hM
          rw [HG.out] at j4
          replace j4 := Lib.hid j4
          clear haf hfb
          rw [HLIT.out]
          go_simp
          exact hK.out _ _ (RS.next (wv := wv) (vs := vs) 0 (x := .bool true) (by rw [HLIT.out]; rfl) (by rw [HG.out]; exact j4.out) hM.out (by rw [HG.out]; exact fun _ _ h => h) (by rw [HG.out]; exact E0.out.symm))
        · intro bf ac wv hfb haf hJ K' hK
          obtain ⟨vs, rfl, hM, j4⟩ := hJ
          replace hK := Lib.hid hK
          replace hM := Lib.hid hM
          rw [HG.out] at j4
          simp [Region.binds] at haf
          have e0 := ((j4 0 (by simp [haf]))).trans E0.out
          replace j4 := Lib.hid j4
          clear haf hfb
          rw [HLIT.out]
          go_simp
          exact hK.out _ _ (RS.next (wv := wv) (vs := vs) 1 (x := .bool true) (by rw [HLIT.out]; simp only [upv, e0, Nat.reduceBEq, cond_true, cond_false]) (by rw [HG.out]; exact j4.out) hM.out (by rw [HG.out]; exact fun _ _ h => h) (by rw [HG.out]; exact E1.out.symm))
        · intro bf ac wv hfb haf hJ K' hK
          obtain ⟨vs, rfl, hM, j4⟩ := hJ
          replace hK := Lib.hid hK
          replace hM := Lib.hid hM
          rw [HG.out] at j4
          simp [Region.binds] at haf
          have e1 := ((j4 1 (by simp [haf]))).trans E1.out
          replace j4 := Lib.hid j4
          clear haf hfb
          rw [HLIT.out]
          go_simp
          exact hK.out _ _ (RS.next (wv := wv) (vs := vs) 2 (x := .int .i64 key) (by rw [HLIT.out]; simp only [upv, e1, Nat.reduceBEq, cond_true, cond_false]) (by rw [HG.out]; exact j4.out) hM.out (by rw [HG.out]; exact fun _ _ h => h) (by rw [HG.out]; exact E2.out.symm))
        · intro bf ac wv hfb haf hJ K' hK
          obtain ⟨vs, rfl, hM, j4⟩ := hJ
          replace hK := Lib.hid hK
          replace hM := Lib.hid hM
          rw [HG.out] at j4
          simp [Region.binds] at haf
          have e1 := ((j4 1 (by simp [haf]))).trans E1.out
          replace j4 := Lib.hid j4
          clear haf hfb
          rw [HLIT.out]
          go_simp
          exact hK.out _ _ (RS.next (wv := wv) (vs := vs) 3 (x := .slice (some ⟨g, 0, none⟩) a.length gc) (by rw [HLIT.out]; simp only [upv, e1, Nat.reduceBEq, cond_true, cond_false]) (by rw [HG.out]; exact j4.out) hM.out (by rw [HG.out]; exact fun _ _ h => h) (by rw [HG.out]; exact E3.out.symm))
        · intro bf ac wv hfb haf hJ K' hK
          obtain ⟨vs, rfl, hM, j4⟩ := hJ
          replace hK := Lib.hid hK
          replace hM := Lib.hid hM
          rw [HG.out] at j4
          simp [Region.binds] at haf
          have e1 := ((j4 1 (by simp [haf]))).trans E1.out
          have e2 := ((j4 2 (by simp [haf]))).trans E2.out
          have e3 := ((j4 3 (by simp [haf]))).trans E3.out
          replace j4 := Lib.hid j4
          clear haf hfb
          rw [HLIT.out]
          go_simp
          go_at_call 17
          refine (tagA_any key _ (a.set j o) _ (FX.out.step hM.out) (by rw [HXL.out]; have := hl.out; omega)).mono ?_
          rintro e w4 ⟨rfl, b4⟩
          rw [he1.out]
          exact hK.out _ _ (RS.next (wv := wv) (vs := vs) 4 (x := .int .i64 dx) (by rw [HLIT.out]; simp only [upv, e1, e2, e3, Nat.reduceBEq, cond_true, cond_false]) (by rw [HG.out]; exact j4.out) (keep2 b4 hM.out) (by rw [HG.out]; exact fun _ _ h => h) (by rw [HG.out]; exact E4.out.symm))
        · intro bf ac wv hfb haf hJ K' hK
          obtain ⟨vs, rfl, hM, j4⟩ := hJ
          replace hK := Lib.hid hK
          replace hM := Lib.hid hM
          rw [HG.out] at j4
          simp [Region.binds] at haf
          have e1 := ((j4 1 (by simp [haf]))).trans E1.out
          replace j4 := Lib.hid j4
          clear haf hfb
          rw [HLIT.out]
          go_simp
          exact hK.out _ _ (RS.next (wv := wv) (vs := vs) 5 (x := .int .i64 d0) (by rw [HLIT.out]; simp only [upv, e1, Nat.reduceBEq, cond_true, cond_false]) (by rw [HG.out]; exact j4.out) hM.out (by rw [HG.out]; exact fun _ _ h => h) (by rw [HG.out]; exact E5.out.symm))
        · intro bf ac wv hfb haf hJ K' hK
          obtain ⟨vs, rfl, hM, j4⟩ := hJ
          replace hK := Lib.hid hK
          replace hM := Lib.hid hM
          rw [HG.out] at j4
          simp [Region.binds] at haf
          have e1 := ((j4 1 (by simp [haf]))).trans E1.out
          have e4 := ((j4 4 (by simp [haf]))).trans E4.out
          have e5 := ((j4 5 (by simp [haf]))).trans E5.out
          replace j4 := Lib.hid j4
          clear haf hfb
          have q1 := HRQ.out
          have q2 : (dx = d0) = False := by have := HRQ.out; simpa using this
          rw [HLIT.out]
          go_simp
          exact hK.out _ _ (RS.next (wv := wv) (vs := vs) 6 (x := .bool false) (by rw [HLIT.out]; simp only [upv, e1, e4, e5, Nat.reduceBEq, cond_true, cond_false]) (by rw [HG.out]; exact j4.out) hM.out (by rw [HG.out]; exact fun _ _ h => h) (by rw [HG.out]; exact E6.out.symm))
        · intro bf ac wv hfb haf hJ K' hK
          obtain ⟨vs, rfl, hM, j4⟩ := hJ
          replace hK := Lib.hid hK
          replace hM := Lib.hid hM
          rw [HG.out] at j4
          simp [Region.binds] at haf
          have e1 := ((j4 1 (by simp [haf]))).trans E1.out
          replace j4 := Lib.hid j4
          clear haf hfb
          rw [HLIT.out]
          go_simp
          exact hK.out _ _ (RS.next (wv := wv) (vs := vs) 7 (x := .slice (some ⟨g, 0, none⟩) a.length gc) (by rw [HLIT.out]; simp only [upv, e1, Nat.reduceBEq, cond_true, cond_false]) (by rw [HG.out]; exact j4.out) hM.out (by rw [HG.out]; exact fun _ _ h => h) (by rw [HG.out]; exact E7.out.symm))
        · intro bf ac wv hfb haf hJ K' hK
          obtain ⟨vs, rfl, hM, j4⟩ := hJ
          replace hK := Lib.hid hK
          replace hM := Lib.hid hM
          rw [HG.out] at j4
          simp [Region.binds] at haf
          have e1 := ((j4 1 (by simp [haf]))).trans E1.out
          replace j4 := Lib.hid j4
          clear haf hfb
          rw [HLIT.out]
          go_simp
          exact hK.out _ _ (RS.next (wv := wv) (vs := vs) 8 (x := .int .i64 j) (by rw [HLIT.out]; simp only [upv, e1, Nat.reduceBEq, cond_true, cond_false]) (by rw [HG.out]; exact j4.out) hM.out (by rw [HG.out]; exact fun _ _ h => h) (by rw [HG.out]; exact E8.out.symm))
        · intro bf ac wv hfb haf hJ K' hK
          obtain ⟨vs, rfl, hM, j4⟩ := hJ
          replace hK := Lib.hid hK
          replace hM := Lib.hid hM
          rw [HG.out] at j4
          simp [Region.binds] at haf
          have e1 := ((j4 1 (by simp [haf]))).trans E1.out
          have e7 := ((j4 7 (by simp [haf]))).trans E7.out
          have e8 := ((j4 8 (by simp [haf]))).trans E8.out
          replace j4 := Lib.hid j4
          clear haf hfb
          have hn1 : (j : Int) < a.length := by have := hjl.out; omega
          have hn2 : (0 : Int) ≤ (j : Int) := by omega
          have hn3 : j < a.length := hjl.out
          rw [HLIT.out]
          go_simp
          exact hK.out _ _ (RS.next (wv := wv) (vs := vs) 9 (x := .pointer (some ⟨g, j, none⟩)) (by rw [HLIT.out]; simp only [upv, e1, e7, e8, Nat.reduceBEq, cond_true, cond_false]) (by rw [HG.out]; exact j4.out) hM.out (by rw [HG.out]; exact fun _ _ h => h) (by rw [HG.out]; exact E9.out.symm))
        · intro bf ac wv hfb haf hJ K' hK
          obtain ⟨vs, rfl, hM, j4⟩ := hJ
          replace hK := Lib.hid hK
          replace hM := Lib.hid hM
          rw [HG.out] at j4
          simp [Region.binds] at haf
          have e1 := ((j4 1 (by simp [haf]))).trans E1.out
          have e9 := ((j4 9 (by simp [haf]))).trans E9.out
          replace j4 := Lib.hid j4
          clear haf hfb
          have xg := keep1 hM.out Y0.out
          have xgz := World.block_lt_of_cell? _ _ xg
          have xgz : g < wv.heap.size := xgz
          rw [HLIT.out]
          go_simp
          exact hK.out _ _ (RS.next (wv := wv) (vs := vs) 10 (x := .int .i64 o) (by rw [HLIT.out]; simp only [upv, e1, e9, Nat.reduceBEq, cond_true, cond_false]) (by rw [HG.out]; exact j4.out) hM.out (by rw [HG.out]; exact fun _ _ h => h) (by rw [HG.out]; exact E10.out.symm))
        · intro bf ac wv hfb haf hJ K' hK
          obtain ⟨vs, rfl, hM, j4⟩ := hJ
          replace hK := Lib.hid hK
          replace hM := Lib.hid hM
          rw [HG.out] at j4
          simp [Region.binds] at haf
          have e1 := ((j4 1 (by simp [haf]))).trans E1.out
          have e10 := ((j4 10 (by simp [haf]))).trans E10.out
          replace j4 := Lib.hid j4
          clear haf hfb
          rw [HLIT.out]
          go_simp
          go_at_call 29
          refine (rrem_any o 2147483647 _ (by omega) (by omega)).mono ?_
          rintro e w4 ⟨rfl, rfl⟩
          have b4 := Below.refl wv.heap.size wv
          rw [hro.out]
          exact hK.out _ _ (RS.next (wv := wv) (vs := vs) 11 (x := .int .i64 ro) (by rw [HLIT.out]; simp only [upv, e1, e10, Nat.reduceBEq, cond_true, cond_false]) (by rw [HG.out]; exact j4.out) (keep2 b4 hM.out) (by rw [HG.out]; exact fun _ _ h => h) (by rw [HG.out]; exact E11.out.symm))
        · intro bf ac wv hfb haf hJ K' hK
          obtain ⟨vs, rfl, hM, j4⟩ := hJ
          replace hK := Lib.hid hK
          replace hM := Lib.hid hM
          rw [HG.out] at j4
          simp [Region.binds] at haf
          have e1 := ((j4 1 (by simp [haf]))).trans E1.out
          replace j4 := Lib.hid j4
          clear haf hfb
          rw [HLIT.out]
          go_simp
          exact hK.out _ _ (RS.next (wv := wv) (vs := vs) 12 (x := .slice (some ⟨bb, off, none⟩) a.length ac) (by rw [HLIT.out]; simp only [upv, e1, Nat.reduceBEq, cond_true, cond_false]) (by rw [HG.out]; exact j4.out) hM.out (by rw [HG.out]; exact fun _ _ h => h) (by rw [HG.out]; exact E12.out.symm))
        · intro bf ac wv hfb haf hJ K' hK
          obtain ⟨vs, rfl, hM, j4⟩ := hJ
          replace hK := Lib.hid hK
          replace hM := Lib.hid hM
          rw [HG.out] at j4
          simp [Region.binds] at haf
          have e1 := ((j4 1 (by simp [haf]))).trans E1.out
          replace j4 := Lib.hid j4
          clear haf hfb
          rw [HLIT.out]
          go_simp
          exact hK.out _ _ (RS.next (wv := wv) (vs := vs) 13 (x := .int .i64 j) (by rw [HLIT.out]; simp only [upv, e1, Nat.reduceBEq, cond_true, cond_false]) (by rw [HG.out]; exact j4.out) hM.out (by rw [HG.out]; exact fun _ _ h => h) (by rw [HG.out]; exact E13.out.symm))
        · intro bf ac wv hfb haf hJ K' hK
          obtain ⟨vs, rfl, hM, j4⟩ := hJ
          replace hK := Lib.hid hK
          replace hM := Lib.hid hM
          rw [HG.out] at j4
          simp [Region.binds] at haf
          have e1 := ((j4 1 (by simp [haf]))).trans E1.out
          have e12 := ((j4 12 (by simp [haf]))).trans E12.out
          have e13 := ((j4 13 (by simp [haf]))).trans E13.out
          replace j4 := Lib.hid j4
          clear haf hfb
          have hn1 : (j : Int) < a.length := by have := hjl.out; omega
          have hn2 : (0 : Int) ≤ (j : Int) := by omega
          have hn3 : j < a.length := hjl.out
          rw [HLIT.out]
          go_simp
          exact hK.out _ _ (RS.next (wv := wv) (vs := vs) 14 (x := .pointer (some ⟨bb, off + j, none⟩)) (by rw [HLIT.out]; simp only [upv, e1, e12, e13, Nat.reduceBEq, cond_true, cond_false]) (by rw [HG.out]; exact j4.out) hM.out (by rw [HG.out]; exact fun _ _ h => h) (by rw [HG.out]; exact E14.out.symm))
        · intro bf ac wv hfb haf hJ K' hK
          obtain ⟨vs, rfl, hM, j4⟩ := hJ
          replace hK := Lib.hid hK
          replace hM := Lib.hid hM
          rw [HG.out] at j4
          simp [Region.binds] at haf
          have e1 := ((j4 1 (by simp [haf]))).trans E1.out
          have e14 := ((j4 14 (by simp [haf]))).trans E14.out
          replace j4 := Lib.hid j4
          clear haf hfb
          have xg := keep1 hM.out X0.out
          have xgz := World.block_lt_of_cell? _ _ xg
          have xgz : bb < wv.heap.size := xgz
          rw [HLIT.out]
          go_simp
          exact hK.out _ _ (RS.next (wv := wv) (vs := vs) 15 (x := .int .i64 y) (by rw [HLIT.out]; simp only [upv, e1, e14, Nat.reduceBEq, cond_true, cond_false]) (by rw [HG.out]; exact j4.out) hM.out (by rw [HG.out]; exact fun _ _ h => h) (by rw [HG.out]; exact E15.out.symm))
        · intro bf ac wv hfb haf hJ K' hK
          obtain ⟨vs, rfl, hM, j4⟩ := hJ
          replace hK := Lib.hid hK
          replace hM := Lib.hid hM
          rw [HG.out] at j4
          simp [Region.binds] at haf
          have e1 := ((j4 1 (by simp [haf]))).trans E1.out
          have e15 := ((j4 15 (by simp [haf]))).trans E15.out
          replace j4 := Lib.hid j4
          clear haf hfb
          rw [HLIT.out]
          go_simp
          go_at_call 29
          refine (rrem_any y 2147483647 _ (by omega) (by omega)).mono ?_
          rintro e w4 ⟨rfl, rfl⟩
          have b4 := Below.refl wv.heap.size wv
          rw [hry.out]
          exact hK.out _ _ (RS.next (wv := wv) (vs := vs) 16 (x := .int .i64 ry) (by rw [HLIT.out]; simp only [upv, e1, e15, Nat.reduceBEq, cond_true, cond_false]) (by rw [HG.out]; exact j4.out) (keep2 b4 hM.out) (by rw [HG.out]; exact fun _ _ h => h) (by rw [HG.out]; exact E16.out.symm))
        · intro bf ac wv hfb haf hJ K' hK
          obtain ⟨vs, rfl, hM, j4⟩ := hJ
          replace hK := Lib.hid hK
          replace hM := Lib.hid hM
          rw [HG.out] at j4
          simp [Region.binds] at haf
          have e1 := ((j4 1 (by simp [haf]))).trans E1.out
          have e11 := ((j4 11 (by simp [haf]))).trans E11.out
          have e16 := ((j4 16 (by simp [haf]))).trans E16.out
          replace j4 := Lib.hid j4
          clear haf hfb
          have q1 := HDQ.out
          have q2 : (ro = ry) = False := by have := HDQ.out; simpa using this
          rw [HLIT.out]
          go_simp
          exact hK.out _ _ (RS.next (wv := wv) (vs := vs) 17 (x := .bool false) (by rw [HLIT.out]; simp only [upv, e1, e11, e16, Nat.reduceBEq, cond_true, cond_false]) (by rw [HG.out]; exact j4.out) hM.out (by rw [HG.out]; exact fun _ _ h => h) (by rw [HG.out]; exact E17.out.symm))
        · intro bf ac wv hfb haf hJ K' hK
          obtain ⟨vs, rfl, hM, j4⟩ := hJ
          replace hK := Lib.hid hK
          replace hM := Lib.hid hM
          rw [HG.out] at j4
          simp [Region.binds] at haf
          have e1 := ((j4 1 (by simp [haf]))).trans E1.out
          have e6 := ((j4 6 (by simp [haf]))).trans E6.out
          have e17 := ((j4 17 (by simp [haf]))).trans E17.out
          replace j4 := Lib.hid j4
          clear haf hfb
          rw [HLIT.out]
          go_simp
          exact hK.out _ _ (RS.next (wv := wv) (vs := vs) 18 (x := .bool true) (by rw [HLIT.out]; simp only [upv, e1, e6, e17, Nat.reduceBEq, cond_true, cond_false]) (by rw [HG.out]; exact j4.out) hM.out (by rw [HG.out]; exact fun _ _ h => h) (by rw [HG.out]; exact E18.out.symm))
        · intro bf ac wv hfb haf hJ K' hK
          obtain ⟨vs, rfl, hM, j4⟩ := hJ
          replace hK := Lib.hid hK
          replace hM := Lib.hid hM
          rw [HG.out] at j4
          simp [Region.binds] at haf
          have e1 := ((j4 1 (by simp [haf]))).trans E1.out
          have e18 := ((j4 18 (by simp [haf]))).trans E18.out
          replace j4 := Lib.hid j4
          clear haf hfb
          rw [HLIT.out]
          go_simp
          exact hK.out _ _ (RS.next (wv := wv) (vs := vs) 19 (x := .bool true) (by rw [HLIT.out]; simp only [upv, e1, e18, Nat.reduceBEq, cond_true, cond_false]) (by rw [HG.out]; exact j4.out) hM.out (by rw [HG.out]; exact fun _ _ h => h) (by rw [HG.out]; exact E19.out.symm))
        · intro bf ac wv hfb haf hJ K' hK
          obtain ⟨vs, rfl, hM, j4⟩ := hJ
          replace hK := Lib.hid hK
          replace hM := Lib.hid hM
          rw [HG.out] at j4
          simp [Region.binds] at haf
          have e19 := ((j4 19 (by simp [haf]))).trans E19.out
          replace j4 := Lib.hid j4
          clear haf hfb
          rw [HLIT.out]
          go_simp
          exact hK.out _ _ (RS.next (wv := wv) (vs := vs) 20 (x := .bool true) (by rw [HLIT.out]; simp only [upv, e19, Nat.reduceBEq, cond_true, cond_false]) (by rw [HG.out]; exact j4.out) hM.out (by rw [HG.out]; exact fun _ _ h => h) (by rw [HG.out]; exact E20.out.symm))
      · intro bf ac wv hall hJ
        obtain ⟨vs, rfl, hM, j4⟩ := hJ
        rw [HG.out] at j4
        have e20 := ((j4 20 (hall 20 (by decide)))).trans E20.out
        have HB9 := Lib.hid (keep2 hM HBP.out)
        clear hM hall j4
        rw [HLIT.out]
        dsimp only
        rw [e20]
        clear e20
        go_wp2
        go_ret
        exact ⟨rfl, HB9.out⟩
theorem tags_any (key : Int) (v : Value) (a : List Int) (v2 : Value) (b : List Int) (t o : Int) (w : World) (_k0 : -9223372036854775808 ≤ key) (_k9 : key ≤ 9223372036854775807) (h : IntsAt w v a) (h2 : IntsAt w v2 b) (t0 : 0 ≤ t) (t9 : t ≤ 255) (o0 : -2147483648 ≤ o) (o9 : o ≤ 2147483647) : Calls Try.prog 5 #[.int .i64 key, v, v2, .int .u8 t, .int .i32 o] w fun e w' => e = .returned (.bool true) ∧ Below w.heap.size w w' := by
  by_cases h1 : 100 < a.length
  · exact tags_a key v a v2 b t o w h h2 t0 t9 o0 o9 h1
  · by_cases h3 : 100 < b.length
    · exact tags_b key v a v2 b t o w h h2 t0 t9 o0 o9 (by omega) h3
    · exact tags_main key v a v2 b t o w h h2 t0 t9 o0 o9 (by omega) (by omega)
end Go.Proofs.Ytkmplekfcalggaa
