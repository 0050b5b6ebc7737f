/- Law CryptoDigests, the walk. -/
import Derived.Test.YtkmplekfcalggaaLe
namespace Go.Proofs.Ytkmplekfcalggaa
open Go.RowKit
set_option maxRecDepth 100000 in
set_option maxHeartbeats 8000000 in
theorem dig_a (v : Value) (a : List Int) (v2 : Value) (b : List Int) (t o : Int) (w : World) (h : IntsAt w v a) (h2 : IntsAt w v2 b) (t0 : 0 ≤ t) (t9 : t ≤ 255) (o0 : -2147483648 ≤ o) (o9 : o ≤ 2147483647) (hl : 100 < a.length) : Calls Try.prog 4 #[v, v2, .int .u8 t, .int .i32 o] w fun e w' => e = .returned (.bool true) ∧ Below w.heap.size w w' := by
  have HA0 := Lib.hid h
  have HB0_ := Lib.hid h2
  obtain ⟨aa, ac, rfl, hm, -⟩ := h
  obtain ⟨ba, bc, rfl, hm2, -⟩ := h2
  unfold maxLen at hm hm2
  replace hl := Lib.hid hl
  have HB0 := Lib.hid (Below.refl w.heap.size w)
  go_enter Try.func4, Try.ntmps4
  go_wp2_with fail
  refine (head_any _).mono ?_
  rintro e u1 ⟨rfl, b1⟩
  have FA_1 := Lib.hid (HA0.out.step b1)
  clear HA0
  have FB_2 := Lib.hid (HB0_.out.step b1)
  clear HB0_
  have HB3 := Lib.hid (keep2 b1 HB0.out)
  clear HB0 b1
  have g1 : decide ((a.length : Int) > 100) = true := by simp; have := hl.out; omega
  have g1b : decide ((100 : Int) < a.length) = true := by simp; have := hl.out; omega
  go_wp2
  go_ret
  exact ⟨rfl, HB3.out⟩
set_option maxRecDepth 100000 in
set_option maxHeartbeats 8000000 in
theorem dig_b (v : Value) (a : List Int) (v2 : Value) (b : List Int) (t o : Int) (w : World) (h : IntsAt w v a) (h2 : IntsAt w v2 b) (t0 : 0 ≤ t) (t9 : t ≤ 255) (o0 : -2147483648 ≤ o) (o9 : o ≤ 2147483647) (hl : a.length ≤ 100) (hb : 100 < b.length) : Calls Try.prog 4 #[v, v2, .int .u8 t, .int .i32 o] w fun e w' => e = .returned (.bool true) ∧ Below w.heap.size w w' := by
  have HA0 := Lib.hid h
  have HB0_ := Lib.hid h2
  obtain ⟨aa, ac, rfl, hm, -⟩ := h
  obtain ⟨ba, bc, rfl, hm2, -⟩ := h2
  unfold maxLen at hm hm2
  replace hl := Lib.hid hl
  replace hb := Lib.hid hb
  have HB0 := Lib.hid (Below.refl w.heap.size w)
  go_enter Try.func4, Try.ntmps4
  go_wp2_with fail
  refine (head_any _).mono ?_
  rintro e u1 ⟨rfl, b1⟩
  have FA_1 := Lib.hid (HA0.out.step b1)
  clear HA0
  have FB_2 := Lib.hid (HB0_.out.step b1)
  clear HB0_
  have HB3 := Lib.hid (keep2 b1 HB0.out)
  clear HB0 b1
  have g1 : decide ((a.length : Int) > 100) = false := by simp; have := hl.out; omega
  have g1b : decide ((100 : Int) < a.length) = false := by simp; have := hl.out; omega
  have g2 : decide ((b.length : Int) > 100) = true := by simp; have := hb.out; omega
  have g2b : decide ((100 : Int) < b.length) = true := by simp; have := hb.out; omega
  go_wp2
  go_ret
  exact ⟨rfl, HB3.out⟩
set_option maxRecDepth 100000 in
set_option maxHeartbeats 8000000 in
theorem dig_main (v : Value) (a : List Int) (v2 : Value) (b : List Int) (t o : Int) (w : World) (h : IntsAt w v a) (h2 : IntsAt w v2 b) (t0 : 0 ≤ t) (t9 : t ≤ 255) (o0 : -2147483648 ≤ o) (o9 : o ≤ 2147483647) (hl : a.length ≤ 100) (hb : b.length ≤ 100) : Calls Try.prog 4 #[v, v2, .int .u8 t, .int .i32 o] w fun e w' => e = .returned (.bool true) ∧ Below w.heap.size w w' := by
  have HA0 := Lib.hid h
  have HB0_ := Lib.hid h2
  obtain ⟨aa, ac, rfl, hm, -⟩ := h
  obtain ⟨ba, bc, rfl, hm2, -⟩ := h2
  unfold maxLen at hm hm2
  replace hl := Lib.hid hl
  replace hb := Lib.hid hb
  have HB0 := Lib.hid (Below.refl w.heap.size w)
  go_enter Try.func4, Try.ntmps4
  go_wp2_with fail
  refine (head_any _).mono ?_
  rintro e u1 ⟨rfl, b1⟩
  have FA_1 := Lib.hid (HA0.out.step b1)
  clear HA0
  have FB_2 := Lib.hid (HB0_.out.step b1)
  clear HB0_
  have HB3 := Lib.hid (keep2 b1 HB0.out)
  clear HB0 b1
  have g1 : decide ((a.length : Int) > 100) = false := by simp; have := hl.out; omega
  have g1b : decide ((100 : Int) < a.length) = false := by simp; have := hl.out; omega
  have g2 : decide ((b.length : Int) > 100) = false := by simp; have := hb.out; omega
  have g2b : decide ((100 : Int) < b.length) = false := by simp; have := hb.out; omega
  go_wp2_with fail
  clear g1 g1b g2 g2b hm hm2
  refine (sum_any _ a _ FA_1.out).mono ?_
  rintro e w' ⟨rfl, rfl⟩
  obtain ⟨d0, hd0⟩ : ∃ z, Dg a = z := ⟨_, rfl⟩
  rw [hd0]
  have HD0 := Lib.hid hd0
  have HFB := Lib.hid (fun k : Nat => (show 0 ≤ (b.take k).foldl dg d0 ∧ (b.take k).foldl dg d0 < 2147483647 from by rw [← hd0]; exact fold_bd a _))
  clear hd0
  go_wp2_with fail
  go_loopw [10, 11] (fun hv kv wr => ∃ k : Nat, k ≤ b.length ∧ kv = .int .i64 k ∧ hv = .int .i64 ((b.take k).foldl dg d0) ∧ wr = u1) (fun _ kv _ => b.length - (intOf kv).toNat)
  case atStart => exact ⟨0, by omega, rfl, rfl, rfl⟩
  case round =>
    obtain ⟨k, hk, rfl, rfl, hwr⟩ := hrel
    have hk9 : k ≤ 100 := by have := hb.out; omega
    have hw9 : wrap64 ((k : Int) + 1) = k + 1 := IntWalk.wrap64_in _ (by omega)
    by_cases hlt : k < b.length
    · subst hwr
      obtain ⟨a2, cap2, hva, -, hcs⟩ := FB_2.out
      obtain ⟨rfl, rfl⟩ : ba = a2 ∧ bc = cap2 := by simpa using hva
      obtain ⟨bb, off, rfl, hcs2⟩ := hcs (by intro h; rw [h] at hlt; simp at hlt)
      have x0 := hcs2 k _ (getD_of hlt)
      clear hcs hcs2 hva
      have HT := Lib.hid (fold_take d0 hlt)
      obtain ⟨g1, g2⟩ := HFB.out k
      generalize b.getD k 0 = x at *
      generalize (b.take k).foldl dg d0 = d at *
      have g3 : 0 ≤ x % 2147483647 := Int.emod_nonneg _ (by omega)
      have g4 : x % 2147483647 < 2147483647 := Int.emod_lt_of_pos _ (by omega)
      obtain ⟨r, hr⟩ : ∃ r, x % 2147483647 = r := ⟨_, rfl⟩
      rw [hr] at g3 g4
      obtain ⟨nx, hnx⟩ : ∃ nx, (d * 1000003 + r + 1) % 2147483647 = nx := ⟨_, rfl⟩
      have q1 : wrap64 (d * 1000003) = d * 1000003 := IntWalk.wrap64_in _ (by omega)
      have q2 : wrap64 (d * 1000003 + r) = d * 1000003 + r := IntWalk.wrap64_in _ (by omega)
      have q3 : wrap64 (d * 1000003 + r + 1) = d * 1000003 + r + 1 := IntWalk.wrap64_in _ (by omega)
      have q4 : (d * 1000003 + r + 1).tmod 2147483647 = nx := by rw [Int.tmod_eq_emod_of_nonneg (by omega)]; exact hnx
      have q5 : (d * 1000003 + r + 1) % 2147483647 = nx := hnx
      have q6 : wrap64 nx = nx := IntWalk.wrap64_in _ (by omega)
      have HX := Lib.hid (show dg d x = nx by unfold dg; rw [hr, hnx])
      have HRR := Lib.hid hr
      clear hr hnx
      go_wp2_with fail
      refine (rrem_any x 2147483647 _ (by omega) (by omega)).mono ?_
      rintro e w' ⟨rfl, rfl⟩
      rw [HRR.out]
      go_wp2
      go_roundw
      case rel => exact ⟨k + 1, hlt, by go_num, by rw [HT.out, HX.out], trivial⟩
      case measure => simp [intOf]; omega
    · subst hwr
      have HS := Lib.hid (show Dg (a ++ b) = (b.take k).foldl dg d0 by rw [Dg_app, HD0.out, List.take_of_length_le (by omega)])
      have hh := HFB.out k
      generalize (b.take k).foldl dg d0 = hv at *
      clear hk HFB hk9 hw9
      obtain ⟨y1, w1, hr1, ho1, hb1⟩ := copy_run wr _ a 22 FA_1.out (by have := hl.out; omega)
      have HO1 := Lib.hid ho1
      have HBL1 := Lib.hid hb1
      clear ho1 hb1
      obtain ⟨y2, w2, hr2, ho2, hb2⟩ := append_run w1 wr.heap.size y1 _ a b 22 HO1.out (FB_2.out.step HBL1.out) (by have := hl.out; have := hb.out; omega) HBL1.out.size
      have HO2 := Lib.hid ho2
      have HBL2 := Lib.hid (HBL1.out.trans hb2)
      clear ho2 hb2
      obtain ⟨ya, yc, rfl⟩ := row_slice HO1.out
      obtain ⟨za, zc, rfl⟩ := row_slice HO2.out
      have HI2 := Lib.hid (ints_of_row HO2.out)
      rw [List.length_append] at HI2 hr2
      go_wp2_with (at_builtin; first | (refine wpList_appI rfl _ _ 22 rfl _ _ (.slice ya a.length yc) rfl rfl hr1 ?_) | (refine wpList_appI rfl _ _ 22 rfl _ _ (.slice za (a.length + b.length) zc) rfl rfl hr2 ?_))
      refine (sum_any _ (a ++ b) _ HI2.out).mono ?_
      rintro e w' ⟨rfl, rfl⟩
      rw [HS.out]
      have FA_4 := Lib.hid (FA_1.out.step HBL2.out)
      clear FA_1
      have FB_5 := Lib.hid (FB_2.out.step HBL2.out)
      clear FB_2
      have HBN := Lib.hid (keep2 HBL2.out HB3.out)
      clear HB3 HBL2 HBL1 HO1 HO2 HI2 hr1 hr2 HS
      have n1 : (hv < 0) = False := by simp; omega
      have n2 : decide (hv < 0) = false := by simp; omega
      by_cases hz : a.length = 0
      · have z1 : ((a.length : Int) == 0) = true := by simp; exact List.length_eq_zero_iff.1 hz
        replace hz := Lib.hid hz
        go_wp2
        go_ret
        exact ⟨rfl, HBN.out⟩
      have z6 : ¬ a.length = 0 := hz
      have z5 : ¬ a = [] := fun h => hz (by rw [h]; rfl)
      have z1 : ((a.length : Int) == 0) = false := by simp; exact z5
      have z3 : ((a.length : Int) = 0) = False := by simp; exact z5
      obtain ⟨j, hj⟩ := Int.eq_ofNat_of_zero_le (Int.emod_nonneg t (show (a.length : Int) ≠ 0 by omega))
      have hjl : j < a.length := by have := Int.emod_lt_of_pos t (show (0 : Int) < (a.length : Int) by omega); omega
      have q1 : t.tmod (a.length : Int) = (j : Int) := by rw [Int.tmod_eq_emod_of_nonneg t0]; exact hj
      have q1b : t % (a.length : Int) = (j : Int) := hj
      have q2 : wrap64 (j : Int) = (j : Int) := IntWalk.wrap64_in _ (by have := hl.out; omega)
      have q4 : wrap64 t = t := IntWalk.wrap64_in _ (by omega)
      have q5 : wrap64 o = o := IntWalk.wrap64_in _ (by omega)
      clear hj hz
      replace hjl := Lib.hid hjl
      obtain ⟨y3, w3, hr3, ho3, hb3⟩ := copy_run w2 _ a 22 FA_4.out (by have := hl.out; omega)
      have HO3 := Lib.hid ho3
      have HBL3 := Lib.hid hb3
      clear ho3 hb3
      obtain ⟨ga, gc, rfl⟩ := row_slice HO3.out
      obtain ⟨g, rfl⟩ : ∃ g, ga = some ⟨g, 0, none⟩ := by
        rcases HO3.out.2 with ⟨-, e⟩ | ⟨g, cp, cur, e, -⟩
        · exact absurd e z6
        · exact ⟨g, by simp at e; exact e.1⟩
      obtain ⟨s1, s2, s3, s4⟩ := set_row HO3.out hjl.out
      have s5 : (j : Int) < a.length := by have := hjl.out; omega
      have s6 : (0 : Int) ≤ (j : Int) := by omega
      have s7 : j < a.length := hjl.out
      have FX := Lib.hid (ints_set (y := o) HO3.out hjl.out)
      have HBM := Lib.hid (HBL3.out.setCell (p := ⟨g, j, none⟩) s3 (.int .i64 o))
      go_wp2_with (at_builtin; refine wpList_appI rfl _ _ 22 rfl _ _ (.slice (some ⟨g, 0, none⟩) a.length gc) rfl rfl hr3 ?_)
      clear z1 z3 z5 z6 q1 q1b q2 q4 q5 s1 s2 s3 s4 s5 s6 s7 hr3 HO3 HBL3 n1 n2
      have FA_6 := Lib.hid (FA_4.out.step HBM.out)
      clear FA_4
      have FB_7 := Lib.hid (FB_5.out.step HBM.out)
      clear FB_5
      have HBP := Lib.hid (keep2 HBM.out HBN.out)
      clear HBN HBM
      obtain ⟨wm, hwm⟩ : ∃ wm, w3.setCell ⟨g, j, none⟩ (.int .i64 o) = wm := ⟨_, rfl⟩
      rw [hwm] at HBP FX FA_6 FB_7 ⊢
      clear hwm
      have HQ := Lib.hid (Dg_set hjl.out o)
      obtain ⟨dx, he1⟩ : ∃ z, Dg (a.set j o) = z := ⟨_, rfl⟩
      obtain ⟨a2, cap2, hva, -, hcs⟩ := FA_6.out
      obtain ⟨rfl, rfl⟩ : aa = a2 ∧ ac = cap2 := by simpa using hva
      obtain ⟨bb, off, rfl, hcs2⟩ := hcs (by intro h; have := hjl.out; rw [h] at this; simp at this)
      have x0 := hcs2 j _ (getD_of hjl.out)
      have X0 := Lib.hid x0
      clear hcs hcs2 hva x0
      obtain ⟨a3, cap3, hvb, -, hcs⟩ := FX.out
      obtain ⟨b3, off3, hb3, hcs3⟩ := hcs (by intro h; have h2 := hjl.out; have h3 := congrArg List.length h; rw [List.length_set] at h3; simp at h3; rw [h3] at h2; simp at h2)
      obtain ⟨rfl, rfl⟩ : g = b3 ∧ 0 = off3 := by rw [hb3] at hvb; simp at hvb; exact ⟨hvb.1.1, hvb.1.2⟩
      have y0 := hcs3 j o (by simp [hjl.out])
      rw [Nat.zero_add] at y0
      have Y0 := Lib.hid y0
      clear hcs hcs3 hvb hb3 y0
      generalize a.getD j 0 = y at *
      rw [he1, HD0.out] at HQ
      replace he1 := Lib.hid he1
      obtain ⟨ro, hro⟩ : ∃ z, o % 2147483647 = z := ⟨_, rfl⟩
      obtain ⟨ry, hry⟩ : ∃ z, y % 2147483647 = z := ⟨_, rfl⟩
      rw [hro, hry] at HQ
      replace hro := Lib.hid hro
      replace hry := Lib.hid hry
      by_cases hq : dx = d0
      · have HRQ := Lib.hid (show (dx == d0) = true by simpa using hq)
        have HDQ := Lib.hid (show (ro == ry) = true by simpa using HQ.out.1 hq)
        clear hq HQ
        obtain ⟨lit, hlit⟩ : ∃ lit : (Nat → Value) → Act, lit = fun vs => { tmps := List.toArray (Value.slice (some { block := bb, off := off }) a.length ac :: Value.slice ba b.length bc :: Value.int IntKind.u8 t :: Value.int IntKind.i32 o :: undef :: undef :: undef :: undef :: vs 20 :: Value.bool true :: Value.int IntKind.i64 hv :: Value.int IntKind.i64 (k : Int) :: Value.int IntKind.i64 (j : Int) :: Value.slice (some { block := g, off := 0 }) a.length gc :: Value.bool true :: Value.slice (some { block := bb, off := off }) a.length ac :: Value.int IntKind.i64 (a.length : Int) :: Value.bool false :: Value.bool false :: Value.slice ba b.length bc :: Value.int IntKind.i64 (b.length : Int) :: Value.bool false :: Value.bool false :: undef :: Value.slice (some { block := bb, off := off }) a.length ac :: Value.int IntKind.i64 d0 :: Value.int IntKind.i64 (k : Int) :: Value.slice ba b.length bc :: Value.int IntKind.i64 (b.length : Int) :: Value.bool false :: u30 :: u31 :: u32 :: u33 :: u34 :: u35 :: u36 :: u37 :: u38 :: u39 :: u40 :: u41 :: Value.slice (some { block := wr.heap.size, off := 0 }) 0 0 :: Value.slice (some { block := bb, off := off }) a.length ac :: Value.slice ya a.length yc :: Value.slice ba b.length bc :: Value.slice za (a.length + b.length) zc :: Value.int IntKind.i64 hv :: Value.int IntKind.i64 hv :: Value.bool false :: Value.bool false :: Value.int IntKind.i64 hv :: Value.bool false :: Value.bool false :: Value.slice (some { block := bb, off := off }) a.length ac :: Value.int IntKind.i64 (a.length : Int) :: Value.bool false :: undef :: Value.int IntKind.u8 t :: Value.int IntKind.i64 t :: Value.slice (some { block := bb, off := off }) a.length ac :: Value.int IntKind.i64 (a.length : Int) :: Value.int IntKind.i64 (j : Int) :: Value.slice (some { block := w2.heap.size, off := 0 }) 0 0 :: Value.slice (some { block := bb, off := off }) a.length ac :: Value.slice (some { block := g, off := 0 }) a.length gc :: Value.slice (some { block := g, off := 0 }) a.length gc :: Value.int IntKind.i64 (j : Int) :: Value.int IntKind.i32 o :: Value.int IntKind.i64 o :: Value.pointer (some { block := g, off := j }) :: vs 0 :: vs 1 :: vs 2 :: vs 3 :: vs 4 :: vs 5 :: vs 6 :: vs 7 :: vs 8 :: vs 9 :: vs 10 :: vs 11 :: vs 12 :: vs 13 :: vs 14 :: vs 15 :: vs 16 :: vs 17 :: vs 18 :: vs 19 :: []), defers := [] } := ⟨_, rfl⟩
        have HLIT := Lib.hid hlit
        clear hlit
        obtain ⟨val, hval⟩ : ∃ val : List Value, val = [.bool true, .bool true, .slice (some ⟨g, 0, none⟩) a.length gc, .int .i64 dx, .slice (some ⟨bb, off, none⟩) a.length ac, .int .i64 d0, .bool true, .slice (some ⟨g, 0, none⟩) a.length gc, .int .i64 j, .pointer (some ⟨g, j, none⟩), .int .i64 o, .int .i64 ro, .slice (some ⟨bb, off, none⟩) a.length ac, .int .i64 j, .pointer (some ⟨bb, off + j, none⟩), .int .i64 y, .int .i64 ry, .bool true, .bool true, .bool true, .bool true] := ⟨_, rfl⟩
        have E0 := Lib.hid (show val.getD 0 undef = .bool true by rw [hval]; rfl)
        have E1 := Lib.hid (show val.getD 1 undef = .bool true by rw [hval]; rfl)
        have E2 := Lib.hid (show val.getD 2 undef = .slice (some ⟨g, 0, none⟩) a.length gc by rw [hval]; rfl)
        have E3 := Lib.hid (show val.getD 3 undef = .int .i64 dx by rw [hval]; rfl)
        have E4 := Lib.hid (show val.getD 4 undef = .slice (some ⟨bb, off, none⟩) a.length ac by rw [hval]; rfl)
        have E5 := Lib.hid (show val.getD 5 undef = .int .i64 d0 by rw [hval]; rfl)
        have E6 := Lib.hid (show val.getD 6 undef = .bool true by rw [hval]; rfl)
        have E7 := Lib.hid (show val.getD 7 undef = .slice (some ⟨g, 0, none⟩) a.length gc by rw [hval]; rfl)
        have E8 := Lib.hid (show val.getD 8 undef = .int .i64 j by rw [hval]; rfl)
        have E9 := Lib.hid (show val.getD 9 undef = .pointer (some ⟨g, j, none⟩) by rw [hval]; rfl)
        have E10 := Lib.hid (show val.getD 10 undef = .int .i64 o by rw [hval]; rfl)
        have E11 := Lib.hid (show val.getD 11 undef = .int .i64 ro by rw [hval]; rfl)
        have E12 := Lib.hid (show val.getD 12 undef = .slice (some ⟨bb, off, none⟩) a.length ac by rw [hval]; rfl)
        have E13 := Lib.hid (show val.getD 13 undef = .int .i64 j by rw [hval]; rfl)
        have E14 := Lib.hid (show val.getD 14 undef = .pointer (some ⟨bb, off + j, none⟩) by rw [hval]; rfl)
        have E15 := Lib.hid (show val.getD 15 undef = .int .i64 y by rw [hval]; rfl)
        have E16 := Lib.hid (show val.getD 16 undef = .int .i64 ry by rw [hval]; rfl)
        have E17 := Lib.hid (show val.getD 17 undef = .bool true by rw [hval]; rfl)
        have E18 := Lib.hid (show val.getD 18 undef = .bool true by rw [hval]; rfl)
        have E19 := Lib.hid (show val.getD 19 undef = .bool true by rw [hval]; rfl)
        have E20 := Lib.hid (show val.getD 20 undef = .bool true by rw [hval]; rfl)
        clear hval
        obtain ⟨G, hG0⟩ : ∃ G : Nat → Value → World → Prop, G = (fun i v w => (v = val.getD i undef)) := ⟨_, rfl⟩
        have HG := Lib.hid hG0
        clear hG0
        refine region_inv (RS lit wm G) (by kernel_rfl) (by decide +kernel) ?_ ?_ ?_
        · exact ⟨fun i => ([undef, undef, undef, undef, undef, undef, undef, undef, undef, undef, undef, undef, undef, undef, undef, undef, undef, undef, undef, undef, Value.bool false] : List Value).getD i undef, (by rw [HLIT.out]; rfl), below_drew _ _, fun i h => by cases h⟩
        · refine ⟨?_, ?_, ?_, ?_, ?_, ?_, ?_, ?_, ?_, ?_, ?_, ?_, ?_, ?_, ?_, ?_, ?_, ?_, ?_, ?_, ?_, trivial⟩
          · intro bf ac wv hfb haf hJ K' hK
            obtain ⟨vs, rfl, hM, j4⟩ := hJ
            replace hK := Lib.hid hK
            replace hM := Lib.hid hM
            rw [HG.out] at j4
            replace j4 := Lib.hid j4
            clear haf hfb
            rw [HLIT.out]
            go_simp
            exact hK.out _ _ (RS.next (wv := wv) (vs := vs) 0 (x := .bool true) (by rw [HLIT.out]; rfl) (by rw [HG.out]; exact j4.out) hM.out (by rw [HG.out]; exact fun _ _ h => h) (by rw [HG.out]; exact E0.out.symm))
          · intro bf ac wv hfb haf hJ K' hK
            obtain ⟨vs, rfl, hM, j4⟩ := hJ
            replace hK := Lib.hid hK
            replace hM := Lib.hid hM
            rw [HG.out] at j4
            simp [Region.binds] at haf
            have e0 := ((j4 0 (by simp [haf]))).trans E0.out
            replace j4 := Lib.hid j4
            clear haf hfb
            rw [HLIT.out]
            go_simp
            exact hK.out _ _ (RS.next (wv := wv) (vs := vs) 1 (x := .bool true) (by rw [HLIT.out]; simp only [upv, e0, Nat.reduceBEq, cond_true, cond_false]) (by rw [HG.out]; exact j4.out) hM.out (by rw [HG.out]; exact fun _ _ h => h) (by rw [HG.out]; exact E1.out.symm))
          · intro bf ac wv hfb haf hJ K' hK
            obtain ⟨vs, rfl, hM, j4⟩ := hJ
            replace hK := Lib.hid hK
            replace hM := Lib.hid hM
            rw [HG.out] at j4
            simp [Region.binds] at haf
            have e1 := ((j4 1 (by simp [haf]))).trans E1.out
            replace j4 := Lib.hid j4
            clear haf hfb
            rw [HLIT.out]
            go_simp
            exact hK.out _ _ (RS.next (wv := wv) (vs := vs) 2 (x := .slice (some ⟨g, 0, none⟩) a.length gc) (by rw [HLIT.out]; simp only [upv, e1, Nat.reduceBEq, cond_true, cond_false]) (by rw [HG.out]; exact j4.out) hM.out (by rw [HG.out]; exact fun _ _ h => h) (by rw [HG.out]; exact E2.out.symm))
          · intro bf ac wv hfb haf hJ K' hK
            obtain ⟨vs, rfl, hM, j4⟩ := hJ
            replace hK := Lib.hid hK
            replace hM := Lib.hid hM
            rw [HG.out] at j4
            simp [Region.binds] at haf
            have e1 := ((j4 1 (by simp [haf]))).trans E1.out
            have e2 := ((j4 2 (by simp [haf]))).trans E2.out
            replace j4 := Lib.hid j4
            clear haf hfb
            rw [HLIT.out]
            go_simp
            go_at_call 15
            refine (sum_any _ (a.set j o) _ (FX.out.step hM.out)).mono ?_
            rintro e w4 ⟨rfl, rfl⟩
            have b4 := Below.refl wv.heap.size wv
            rw [he1.out]
            exact hK.out _ _ (RS.next (wv := wv) (vs := vs) 3 (x := .int .i64 dx) (by rw [HLIT.out]; simp only [upv, e1, e2, Nat.reduceBEq, cond_true, cond_false]) (by rw [HG.out]; exact j4.out) (keep2 b4 hM.out) (by rw [HG.out]; exact fun _ _ h => h) (by rw [HG.out]; exact E3.out.symm))
          · intro bf ac wv hfb haf hJ K' hK
            obtain ⟨vs, rfl, hM, j4⟩ := hJ
            replace hK := Lib.hid hK
            replace hM := Lib.hid hM
            rw [HG.out] at j4
            simp [Region.binds] at haf
            have e1 := ((j4 1 (by simp [haf]))).trans E1.out
            replace j4 := Lib.hid j4
            clear haf hfb
            rw [HLIT.out]
            go_simp
            exact hK.out _ _ (RS.next (wv := wv) (vs := vs) 4 (x := .slice (some ⟨bb, off, none⟩) a.length ac) (by rw [HLIT.out]; simp only [upv, e1, Nat.reduceBEq, cond_true, cond_false]) (by rw [HG.out]; exact j4.out) hM.out (by rw [HG.out]; exact fun _ _ h => h) (by rw [HG.out]; exact E4.out.symm))
          · intro bf ac wv hfb haf hJ K' hK
            obtain ⟨vs, rfl, hM, j4⟩ := hJ
            replace hK := Lib.hid hK
            replace hM := Lib.hid hM
            rw [HG.out] at j4
            simp [Region.binds] at haf
            have e1 := ((j4 1 (by simp [haf]))).trans E1.out
            have e4 := ((j4 4 (by simp [haf]))).trans E4.out
            replace j4 := Lib.hid j4
            clear haf hfb
            rw [HLIT.out]
            go_simp
            go_at_call 15
            refine (sum_any _ a _ (FA_6.out.step hM.out)).mono ?_
            rintro e w4 ⟨rfl, rfl⟩
            have b4 := Below.refl wv.heap.size wv
            rw [HD0.out]
            exact hK.out _ _ (RS.next (wv := wv) (vs := vs) 5 (x := .int .i64 d0) (by rw [HLIT.out]; simp only [upv, e1, e4, Nat.reduceBEq, cond_true, cond_false]) (by rw [HG.out]; exact j4.out) (keep2 b4 hM.out) (by rw [HG.out]; exact fun _ _ h => h) (by rw [HG.out]; exact E5.out.symm))
          · intro bf ac wv hfb haf hJ K' hK
            obtain ⟨vs, rfl, hM, j4⟩ := hJ
            replace hK := Lib.hid hK
            replace hM := Lib.hid hM
            rw [HG.out] at j4
            simp [Region.binds] at haf
            have e1 := ((j4 1 (by simp [haf]))).trans E1.out
            have e3 := ((j4 3 (by simp [haf]))).trans E3.out
            have e5 := ((j4 5 (by simp [haf]))).trans E5.out
            replace j4 := Lib.hid j4
            clear haf hfb
            have q1 := HRQ.out
            have q2 : (dx = d0) = True := by have := HRQ.out; simpa using this
            rw [HLIT.out]
            go_simp
            exact hK.out _ _ (RS.next (wv := wv) (vs := vs) 6 (x := .bool true) (by rw [HLIT.out]; simp only [upv, e1, e3, e5, Nat.reduceBEq, cond_true, cond_false]) (by rw [HG.out]; exact j4.out) hM.out (by rw [HG.out]; exact fun _ _ h => h) (by rw [HG.out]; exact E6.out.symm))
          · intro bf ac wv hfb haf hJ K' hK
            obtain ⟨vs, rfl, hM, j4⟩ := hJ
            replace hK := Lib.hid hK
            replace hM := Lib.hid hM
            rw [HG.out] at j4
            simp [Region.binds] at haf
            have e1 := ((j4 1 (by simp [haf]))).trans E1.out
            replace j4 := Lib.hid j4
            clear haf hfb
            rw [HLIT.out]
            go_simp
            exact hK.out _ _ (RS.next (wv := wv) (vs := vs) 7 (x := .slice (some ⟨g, 0, none⟩) a.length gc) (by rw [HLIT.out]; simp only [upv, e1, Nat.reduceBEq, cond_true, cond_false]) (by rw [HG.out]; exact j4.out) hM.out (by rw [HG.out]; exact fun _ _ h => h) (by rw [HG.out]; exact E7.out.symm))
          · intro bf ac wv hfb haf hJ K' hK
            obtain ⟨vs, rfl, hM, j4⟩ := hJ
            replace hK := Lib.hid hK
            replace hM := Lib.hid hM
            rw [HG.out] at j4
            simp [Region.binds] at haf
            have e1 := ((j4 1 (by simp [haf]))).trans E1.out
            replace j4 := Lib.hid j4
            clear haf hfb
            rw [HLIT.out]
            go_simp
            exact hK.out _ _ (RS.next (wv := wv) (vs := vs) 8 (x := .int .i64 j) (by rw [HLIT.out]; simp only [upv, e1, Nat.reduceBEq, cond_true, cond_false]) (by rw [HG.out]; exact j4.out) hM.out (by rw [HG.out]; exact fun _ _ h => h) (by rw [HG.out]; exact E8.out.symm))
          · intro bf ac wv hfb haf hJ K' hK
            obtain ⟨vs, rfl, hM, j4⟩ := hJ
            replace hK := Lib.hid hK
            replace hM := Lib.hid hM
            rw [HG.out] at j4
            simp [Region.binds] at haf
            have e1 := ((j4 1 (by simp [haf]))).trans E1.out
            have e7 := ((j4 7 (by simp [haf]))).trans E7.out
            have e8 := ((j4 8 (by simp [haf]))).trans E8.out
            replace j4 := Lib.hid j4
            clear haf hfb
            have hn1 : (j : Int) < a.length := by have := hjl.out; omega
            have hn2 : (0 : Int) ≤ (j : Int) := by omega
            have hn3 : j < a.length := hjl.out
            rw [HLIT.out]
            go_simp
            exact hK.out _ _ (RS.next (wv := wv) (vs := vs) 9 (x := .pointer (some ⟨g, j, none⟩)) (by rw [HLIT.out]; simp only [upv, e1, e7, e8, Nat.reduceBEq, cond_true, cond_false]) (by rw [HG.out]; exact j4.out) hM.out (by rw [HG.out]; exact fun _ _ h => h) (by rw [HG.out]; exact E9.out.symm))
          · intro bf ac wv hfb haf hJ K' hK
            obtain ⟨vs, rfl, hM, j4⟩ := hJ
            replace hK := Lib.hid hK
            replace hM := Lib.hid hM
            rw [HG.out] at j4
            simp [Region.binds] at haf
            have e1 := ((j4 1 (by simp [haf]))).trans E1.out
            have e9 := ((j4 9 (by simp [haf]))).trans E9.out
            replace j4 := Lib.hid j4
            clear haf hfb
            have xg := keep1 hM.out Y0.out
            have xgz := World.block_lt_of_cell? _ _ xg
            have xgz : g < wv.heap.size := xgz
            rw [HLIT.out]
            go_simp
            exact hK.out _ _ (RS.next (wv := wv) (vs := vs) 10 (x := .int .i64 o) (by rw [HLIT.out]; simp only [upv, e1, e9, Nat.reduceBEq, cond_true, cond_false]) (by rw [HG.out]; exact j4.out) hM.out (by rw [HG.out]; exact fun _ _ h => h) (by rw [HG.out]; exact E10.out.symm))
          · intro bf ac wv hfb haf hJ K' hK
            obtain ⟨vs, rfl, hM, j4⟩ := hJ
            replace hK := Lib.hid hK
            replace hM := Lib.hid hM
            rw [HG.out] at j4
            simp [Region.binds] at haf
            have e1 := ((j4 1 (by simp [haf]))).trans E1.out
            have e10 := ((j4 10 (by simp [haf]))).trans E10.out
            replace j4 := Lib.hid j4
            clear haf hfb
            rw [HLIT.out]
            go_simp
            go_at_call 29
            refine (rrem_any o 2147483647 _ (by omega) (by omega)).mono ?_
            rintro e w4 ⟨rfl, rfl⟩
            have b4 := Below.refl wv.heap.size wv
            rw [hro.out]
            exact hK.out _ _ (RS.next (wv := wv) (vs := vs) 11 (x := .int .i64 ro) (by rw [HLIT.out]; simp only [upv, e1, e10, Nat.reduceBEq, cond_true, cond_false]) (by rw [HG.out]; exact j4.out) (keep2 b4 hM.out) (by rw [HG.out]; exact fun _ _ h => h) (by rw [HG.out]; exact E11.out.symm))
          · intro bf ac wv hfb haf hJ K' hK
            obtain ⟨vs, rfl, hM, j4⟩ := hJ
            replace hK := Lib.hid hK
            replace hM := Lib.hid hM
            rw [HG.out] at j4
            simp [Region.binds] at haf
            have e1 := ((j4 1 (by simp [haf]))).trans E1.out
            replace j4 := Lib.hid j4
            clear haf hfb
            rw [HLIT.out]
            go_simp
            exact hK.out _ _ (RS.next (wv := wv) (vs := vs) 12 (x := .slice (some ⟨bb, off, none⟩) a.length ac) (by rw [HLIT.out]; simp only [upv, e1, Nat.reduceBEq, cond_true, cond_false]) (by rw [HG.out]; exact j4.out) hM.out (by rw [HG.out]; exact fun _ _ h => h) (by rw [HG.out]; exact E12.out.symm))
          · intro bf ac wv hfb haf hJ K' hK
            obtain ⟨vs, rfl, hM, j4⟩ := hJ
            replace hK := Lib.hid hK
            replace hM := Lib.hid hM
            rw [HG.out] at j4
            simp [Region.binds] at haf
            have e1 := ((j4 1 (by simp [haf]))).trans E1.out
            replace j4 := Lib.hid j4
            clear haf hfb
            rw [HLIT.out]
            go_simp
            exact hK.out _ _ (RS.next (wv := wv) (vs := vs) 13 (x := .int .i64 j) (by rw [HLIT.out]; simp only [upv, e1, Nat.reduceBEq, cond_true, cond_false]) (by rw [HG.out]; exact j4.out) hM.out (by rw [HG.out]; exact fun _ _ h => h) (by rw [HG.out]; exact E13.out.symm))
          · intro bf ac wv hfb haf hJ K' hK
            obtain ⟨vs, rfl, hM, j4⟩ := hJ
            replace hK := Lib.hid hK
            replace hM := Lib.hid hM
            rw [HG.out] at j4
            simp [Region.binds] at haf
            have e1 := ((j4 1 (by simp [haf]))).trans E1.out
            have e12 := ((j4 12 (by simp [haf]))).trans E12.out
            have e13 := ((j4 13 (by simp [haf]))).trans E13.out
            replace j4 := Lib.hid j4
            clear haf hfb
            have hn1 : (j : Int) < a.length := by have := hjl.out; omega
            have hn2 : (0 : Int) ≤ (j : Int) := by omega
            have hn3 : j < a.length := hjl.out
            rw [HLIT.out]
            go_simp
            exact hK.out _ _ (RS.next (wv := wv) (vs := vs) 14 (x := .pointer (some ⟨bb, off + j, none⟩)) (by rw [HLIT.out]; simp only [upv, e1, e12, e13, Nat.reduceBEq, cond_true, cond_false]) (by rw [HG.out]; exact j4.out) hM.out (by rw [HG.out]; exact fun _ _ h => h) (by rw [HG.out]; exact E14.out.symm))
          · intro bf ac wv hfb haf hJ K' hK
            obtain ⟨vs, rfl, hM, j4⟩ := hJ
            replace hK := Lib.hid hK
            replace hM := Lib.hid hM
            rw [HG.out] at j4
            simp [Region.binds] at haf
            have e1 := ((j4 1 (by simp [haf]))).trans E1.out
            have e14 := ((j4 14 (by simp [haf]))).trans E14.out
            replace j4 := Lib.hid j4
            clear haf hfb
            have xg := keep1 hM.out X0.out
            have xgz := World.block_lt_of_cell? _ _ xg
            have xgz : bb < wv.heap.size := xgz
            rw [HLIT.out]
            go_simp
            exact hK.out _ _ (RS.next (wv := wv) (vs := vs) 15 (x := .int .i64 y) (by rw [HLIT.out]; simp only [upv, e1, e14, Nat.reduceBEq, cond_true, cond_false]) (by rw [HG.out]; exact j4.out) hM.out (by rw [HG.out]; exact fun _ _ h => h) (by rw [HG.out]; exact E15.out.symm))
          · intro bf ac wv hfb haf hJ K' hK
            obtain ⟨vs, rfl, hM, j4⟩ := hJ
            replace hK := Lib.hid hK
            replace hM := Lib.hid hM
            rw [HG.out] at j4
            simp [Region.binds] at haf
            have e1 := ((j4 1 (by simp [haf]))).trans E1.out
            have e15 := ((j4 15 (by simp [haf]))).trans E15.out
            replace j4 := Lib.hid j4
            clear haf hfb
            rw [HLIT.out]
            go_simp
            go_at_call 29
            refine (rrem_any y 2147483647 _ (by omega) (by omega)).mono ?_
            rintro e w4 ⟨rfl, rfl⟩
            have b4 := Below.refl wv.heap.size wv
            rw [hry.out]
            exact hK.out _ _ (RS.next (wv := wv) (vs := vs) 16 (x := .int .i64 ry) (by rw [HLIT.out]; simp only [upv, e1, e15, Nat.reduceBEq, cond_true, cond_false]) (by rw [HG.out]; exact j4.out) (keep2 b4 hM.out) (by rw [HG.out]; exact fun _ _ h => h) (by rw [HG.out]; exact E16.out.symm))
          · intro bf ac wv hfb haf hJ K' hK
            obtain ⟨vs, rfl, hM, j4⟩ := hJ
            replace hK := Lib.hid hK
            replace hM := Lib.hid hM
            rw [HG.out] at j4
            simp [Region.binds] at haf
            have e1 := ((j4 1 (by simp [haf]))).trans E1.out
            have e11 := ((j4 11 (by simp [haf]))).trans E11.out
            have e16 := ((j4 16 (by simp [haf]))).trans E16.out
            replace j4 := Lib.hid j4
            clear haf hfb
            have q1 := HDQ.out
            have q2 : (ro = ry) = True := by have := HDQ.out; simpa using this
            rw [HLIT.out]
            go_simp
            exact hK.out _ _ (RS.next (wv := wv) (vs := vs) 17 (x := .bool true) (by rw [HLIT.out]; simp only [upv, e1, e11, e16, Nat.reduceBEq, cond_true, cond_false]) (by rw [HG.out]; exact j4.out) hM.out (by rw [HG.out]; exact fun _ _ h => h) (by rw [HG.out]; exact E17.out.symm))
          · intro bf ac wv hfb haf hJ K' hK
            obtain ⟨vs, rfl, hM, j4⟩ := hJ
            replace hK := Lib.hid hK
            replace hM := Lib.hid hM
            rw [HG.out] at j4
            simp [Region.binds] at haf
            have e1 := ((j4 1 (by simp [haf]))).trans E1.out
            have e6 := ((j4 6 (by simp [haf]))).trans E6.out
            have e17 := ((j4 17 (by simp [haf]))).trans E17.out
            replace j4 := Lib.hid j4
            clear haf hfb
            rw [HLIT.out]
            go_simp
            exact hK.out _ _ (RS.next (wv := wv) (vs := vs) 18 (x := .bool true) (by rw [HLIT.out]; simp only [upv, e1, e6, e17, Nat.reduceBEq, cond_true, cond_false]) (by rw [HG.out]; exact j4.out) hM.out (by rw [HG.out]; exact fun _ _ h => h) (by rw [HG.out]; exact E18.out.symm))
          · intro bf ac wv hfb haf hJ K' hK
            obtain ⟨vs, rfl, hM, j4⟩ := hJ
            replace hK := Lib.hid hK
            replace hM := Lib.hid hM
            rw [HG.out] at j4
            simp [Region.binds] at haf
            have e1 := ((j4 1 (by simp [haf]))).trans E1.out
            have e18 := ((j4 18 (by simp [haf]))).trans E18.out
            replace j4 := Lib.hid j4
            clear haf hfb
            rw [HLIT.out]
            go_simp
            exact hK.out _ _ (RS.next (wv := wv) (vs := vs) 19 (x := .bool true) (by rw [HLIT.out]; simp only [upv, e1, e18, Nat.reduceBEq, cond_true, cond_false]) (by rw [HG.out]; exact j4.out) hM.out (by rw [HG.out]; exact fun _ _ h => h) (by rw [HG.out]; exact E19.out.symm))
          · intro bf ac wv hfb haf hJ K' hK
            obtain ⟨vs, rfl, hM, j4⟩ := hJ
            replace hK := Lib.hid hK
            replace hM := Lib.hid hM
            rw [HG.out] at j4
            simp [Region.binds] at haf
            have e19 := ((j4 19 (by simp [haf]))).trans E19.out
            replace j4 := Lib.hid j4
            clear haf hfb
            rw [HLIT.out]
            go_simp
            exact hK.out _ _ (RS.next (wv := wv) (vs := vs) 20 (x := .bool true) (by rw [HLIT.out]; simp only [upv, e19, Nat.reduceBEq, cond_true, cond_false]) (by rw [HG.out]; exact j4.out) hM.out (by rw [HG.out]; exact fun _ _ h => h) (by rw [HG.out]; exact E20.out.symm))
        · intro bf ac wv hall hJ
          obtain ⟨vs, rfl, hM, j4⟩ := hJ
          rw [HG.out] at j4
          have e20 := ((j4 20 (hall 20 (by decide)))).trans E20.out
          have HB9 := Lib.hid (keep2 hM HBP.out)
          clear hM hall j4
          rw [HLIT.out]
          dsimp only
          rw [e20]
          clear e20
          go_wp2
          go_ret
          exact ⟨rfl, HB9.out⟩
      · have HRQ := Lib.hid (show (dx == d0) = false by simpa using hq)
        have HDQ := Lib.hid (show (ro == ry) = false by simpa using fun h => hq (HQ.out.2 h))
        clear hq HQ
        obtain ⟨lit, hlit⟩ : ∃ lit : (Nat → Value) → Act, lit = fun vs => { tmps := List.toArray (Value.slice (some { block := bb, off := off }) a.length ac :: Value.slice ba b.length bc :: Value.int IntKind.u8 t :: Value.int IntKind.i32 o :: undef :: undef :: undef :: undef :: vs 20 :: Value.bool true :: Value.int IntKind.i64 hv :: Value.int IntKind.i64 (k : Int) :: Value.int IntKind.i64 (j : Int) :: Value.slice (some { block := g, off := 0 }) a.length gc :: Value.bool true :: Value.slice (some { block := bb, off := off }) a.length ac :: Value.int IntKind.i64 (a.length : Int) :: Value.bool false :: Value.bool false :: Value.slice ba b.length bc :: Value.int IntKind.i64 (b.length : Int) :: Value.bool false :: Value.bool false :: undef :: Value.slice (some { block := bb, off := off }) a.length ac :: Value.int IntKind.i64 d0 :: Value.int IntKind.i64 (k : Int) :: Value.slice ba b.length bc :: Value.int IntKind.i64 (b.length : Int) :: Value.bool false :: u30 :: u31 :: u32 :: u33 :: u34 :: u35 :: u36 :: u37 :: u38 :: u39 :: u40 :: u41 :: Value.slice (some { block := wr.heap.size, off := 0 }) 0 0 :: Value.slice (some { block := bb, off := off }) a.length ac :: Value.slice ya a.length yc :: Value.slice ba b.length bc :: Value.slice za (a.length + b.length) zc :: Value.int IntKind.i64 hv :: Value.int IntKind.i64 hv :: Value.bool false :: Value.bool false :: Value.int IntKind.i64 hv :: Value.bool false :: Value.bool false :: Value.slice (some { block := bb, off := off }) a.length ac :: Value.int IntKind.i64 (a.length : Int) :: Value.bool false :: undef :: Value.int IntKind.u8 t :: Value.int IntKind.i64 t :: Value.slice (some { block := bb, off := off }) a.length ac :: Value.int IntKind.i64 (a.length : Int) :: Value.int IntKind.i64 (j : Int) :: Value.slice (some { block := w2.heap.size, off := 0 }) 0 0 :: Value.slice (some { block := bb, off := off }) a.length ac :: Value.slice (some { block := g, off := 0 }) a.length gc :: Value.slice (some { block := g, off := 0 }) a.length gc :: Value.int IntKind.i64 (j : Int) :: Value.int IntKind.i32 o :: Value.int IntKind.i64 o :: Value.pointer (some { block := g, off := j }) :: vs 0 :: vs 1 :: vs 2 :: vs 3 :: vs 4 :: vs 5 :: vs 6 :: vs 7 :: vs 8 :: vs 9 :: vs 10 :: vs 11 :: vs 12 :: vs 13 :: vs 14 :: vs 15 :: vs 16 :: vs 17 :: vs 18 :: vs 19 :: []), defers := [] } := ⟨_, rfl⟩
        have HLIT := Lib.hid hlit
        clear hlit
        obtain ⟨val, hval⟩ : ∃ val : List Value, val = [.bool true, .bool true, .slice (some ⟨g, 0, none⟩) a.length gc, .int .i64 dx, .slice (some ⟨bb, off, none⟩) a.length ac, .int .i64 d0, .bool false, .slice (some ⟨g, 0, none⟩) a.length gc, .int .i64 j, .pointer (some ⟨g, j, none⟩), .int .i64 o, .int .i64 ro, .slice (some ⟨bb, off, none⟩) a.length ac, .int .i64 j, .pointer (some ⟨bb, off + j, none⟩), .int .i64 y, .int .i64 ry, .bool false, .bool true, .bool true, .bool true] := ⟨_, rfl⟩
        have E0 := Lib.hid (show val.getD 0 undef = .bool true by rw [hval]; rfl)
        have E1 := Lib.hid (show val.getD 1 undef = .bool true by rw [hval]; rfl)
        have E2 := Lib.hid (show val.getD 2 undef = .slice (some ⟨g, 0, none⟩) a.length gc by rw [hval]; rfl)
        have E3 := Lib.hid (show val.getD 3 undef = .int .i64 dx by rw [hval]; rfl)
        have E4 := Lib.hid (show val.getD 4 undef = .slice (some ⟨bb, off, none⟩) a.length ac by rw [hval]; rfl)
        have E5 := Lib.hid (show val.getD 5 undef = .int .i64 d0 by rw [hval]; rfl)
        have E6 := Lib.hid (show val.getD 6 undef = .bool false by rw [hval]; rfl)
        have E7 := Lib.hid (show val.getD 7 undef = .slice (some ⟨g, 0, none⟩) a.length gc by rw [hval]; rfl)
        have E8 := Lib.hid (show val.getD 8 undef = .int .i64 j by rw [hval]; rfl)
        have E9 := Lib.hid (show val.getD 9 undef = .pointer (some ⟨g, j, none⟩) by rw [hval]; rfl)
        have E10 := Lib.hid (show val.getD 10 undef = .int .i64 o by rw [hval]; rfl)
        have E11 := Lib.hid (show val.getD 11 undef = .int .i64 ro by rw [hval]; rfl)
        have E12 := Lib.hid (show val.getD 12 undef = .slice (some ⟨bb, off, none⟩) a.length ac by rw [hval]; rfl)
        have E13 := Lib.hid (show val.getD 13 undef = .int .i64 j by rw [hval]; rfl)
        have E14 := Lib.hid (show val.getD 14 undef = .pointer (some ⟨bb, off + j, none⟩) by rw [hval]; rfl)
        have E15 := Lib.hid (show val.getD 15 undef = .int .i64 y by rw [hval]; rfl)
        have E16 := Lib.hid (show val.getD 16 undef = .int .i64 ry by rw [hval]; rfl)
        have E17 := Lib.hid (show val.getD 17 undef = .bool false by rw [hval]; rfl)
        have E18 := Lib.hid (show val.getD 18 undef = .bool true by rw [hval]; rfl)
        have E19 := Lib.hid (show val.getD 19 undef = .bool true by rw [hval]; rfl)
        have E20 := Lib.hid (show val.getD 20 undef = .bool true by rw [hval]; rfl)
        clear hval
        obtain ⟨G, hG0⟩ : ∃ G : Nat → Value → World → Prop, G = (fun i v w => (v = val.getD i undef)) := ⟨_, rfl⟩
        have HG := Lib.hid hG0
        clear hG0
        refine region_inv (RS lit wm G) (by kernel_rfl) (by decide +kernel) ?_ ?_ ?_
        · exact ⟨fun i => ([undef, undef, undef, undef, undef, undef, undef, undef, undef, undef, undef, undef, undef, undef, undef, undef, undef, undef, undef, undef, Value.bool false] : List Value).getD i undef, (by rw [HLIT.out]; rfl), below_drew _ _, fun i h => by cases h⟩
        · refine ⟨?_, ?_, ?_, ?_, ?_, ?_, ?_, ?_, ?_, ?_, ?_, ?_, ?_, ?_, ?_, ?_, ?_, ?_, ?_, ?_, ?_, trivial⟩
          · intro bf ac wv hfb haf hJ K' hK
            obtain ⟨vs, rfl, hM, j4⟩ := hJ
            replace hK := Lib.hid hK
            replace hM := Lib.hid hM
            rw [HG.out] at j4
            replace j4 := Lib.hid j4
            clear haf hfb
            rw [HLIT.out]
            go_simp
            exact hK.out _ _ (RS.next (wv := wv) (vs := vs) 0 (x := .bool true) (by rw [HLIT.out]; rfl) (by rw [HG.out]; exact j4.out) hM.out (by rw [HG.out]; exact fun _ _ h => h) (by rw [HG.out]; exact E0.out.symm))
          · intro bf ac wv hfb haf hJ K' hK
            obtain ⟨vs, rfl, hM, j4⟩ := hJ
            replace hK := Lib.hid hK
            replace hM := Lib.hid hM
            rw [HG.out] at j4
            simp [Region.binds] at haf
            have e0 := ((j4 0 (by simp [haf]))).trans E0.out
            replace j4 := Lib.hid j4
            clear haf hfb
            rw [HLIT.out]
            go_simp
            exact hK.out _ _ (RS.next (wv := wv) (vs := vs) 1 (x := .bool true) (by rw [HLIT.out]; simp only [upv, e0, Nat.reduceBEq, cond_true, cond_false]) (by rw [HG.out]; exact j4.out) hM.out (by rw [HG.out]; exact fun _ _ h => h) (by rw [HG.out]; exact E1.out.symm))
          · intro bf ac wv hfb haf hJ K' hK
            obtain ⟨vs, rfl, hM, j4⟩ := hJ
            replace hK := Lib.hid hK
            replace hM := Lib.hid hM
            rw [HG.out] at j4
            simp [Region.binds] at haf
            have e1 := ((j4 1 (by simp [haf]))).trans E1.out
            replace j4 := Lib.hid j4
            clear haf hfb
            rw [HLIT.out]
            go_simp
            exact hK.out _ _ (RS.next (wv := wv) (vs := vs) 2 (x := .slice (some ⟨g, 0, none⟩) a.length gc) (by rw [HLIT.out]; simp only [upv, e1, Nat.reduceBEq, cond_true, cond_false]) (by rw [HG.out]; exact j4.out) hM.out (by rw [HG.out]; exact fun _ _ h => h) (by rw [HG.out]; exact E2.out.symm))
          · intro bf ac wv hfb haf hJ K' hK
            obtain ⟨vs, rfl, hM, j4⟩ := hJ
            replace hK := Lib.hid hK
            replace hM := Lib.hid hM
            rw [HG.out] at j4
            simp [Region.binds] at haf
            have e1 := ((j4 1 (by simp [haf]))).trans E1.out
            have e2 := ((j4 2 (by simp [haf]))).trans E2.out
            replace j4 := Lib.hid j4
            clear haf hfb
            rw [HLIT.out]
            go_simp
            go_at_call 15
            refine (sum_any _ (a.set j o) _ (FX.out.step hM.out)).mono ?_
            rintro e w4 ⟨rfl, rfl⟩
            have b4 := Below.refl wv.heap.size wv
            rw [he1.out]
            exact hK.out _ _ (RS.next (wv := wv) (vs := vs) 3 (x := .int .i64 dx) (by rw [HLIT.out]; simp only [upv, e1, e2, Nat.reduceBEq, cond_true, cond_false]) (by rw [HG.out]; exact j4.out) (keep2 b4 hM.out) (by rw [HG.out]; exact fun _ _ h => h) (by rw [HG.out]; exact E3.out.symm))
          · intro bf ac wv hfb haf hJ K' hK
            obtain ⟨vs, rfl, hM, j4⟩ := hJ
            replace hK := Lib.hid hK
            replace hM := Lib.hid hM
            rw [HG.out] at j4
            simp [Region.binds] at haf
            have e1 := ((j4 1 (by simp [haf]))).trans E1.out
            replace j4 := Lib.hid j4
            clear haf hfb
            rw [HLIT.out]
            go_simp
            exact hK.out _ _ (RS.next (wv := wv) (vs := vs) 4 (x := .slice (some ⟨bb, off, none⟩) a.length ac) (by rw [HLIT.out]; simp only [upv, e1, Nat.reduceBEq, cond_true, cond_false]) (by rw [HG.out]; exact j4.out) hM.out (by rw [HG.out]; exact fun _ _ h => h) (by rw [HG.out]; exact E4.out.symm))
          · intro bf ac wv hfb haf hJ K' hK
            obtain ⟨vs, rfl, hM, j4⟩ := hJ
            replace hK := Lib.hid hK
            replace hM := Lib.hid hM
            rw [HG.out] at j4
            simp [Region.binds] at haf
            have e1 := ((j4 1 (by simp [haf]))).trans E1.out
            have e4 := ((j4 4 (by simp [haf]))).trans E4.out
            replace j4 := Lib.hid j4
            clear haf hfb
            rw [HLIT.out]
            go_simp
            go_at_call 15
            refine (sum_any _ a _ (FA_6.out.step hM.out)).mono ?_
            rintro e w4 ⟨rfl, rfl⟩
            have b4 := Below.refl wv.heap.size wv
            rw [HD0.out]
            exact hK.out _ _ (RS.next (wv := wv) (vs := vs) 5 (x := .int .i64 d0) (by rw [HLIT.out]; simp only [upv, e1, e4, Nat.reduceBEq, cond_true, cond_false]) (by rw [HG.out]; exact j4.out) (keep2 b4 hM.out) (by rw [HG.out]; exact fun _ _ h => h) (by rw [HG.out]; exact E5.out.symm))
          · intro bf ac wv hfb haf hJ K' hK
            obtain ⟨vs, rfl, hM, j4⟩ := hJ
            replace hK := Lib.hid hK
            replace hM := Lib.hid hM
            rw [HG.out] at j4
            simp [Region.binds] at haf
            have e1 := ((j4 1 (by simp [haf]))).trans E1.out
            have e3 := ((j4 3 (by simp [haf]))).trans E3.out
            have e5 := ((j4 5 (by simp [haf]))).trans E5.out
            replace j4 := Lib.hid j4
            clear haf hfb
            have q1 := HRQ.out
            have q2 : (dx = d0) = False := by have := HRQ.out; simpa using this
            rw [HLIT.out]
            go_simp
            exact hK.out _ _ (RS.next (wv := wv) (vs := vs) 6 (x := .bool false) (by rw [HLIT.out]; simp only [upv, e1, e3, e5, Nat.reduceBEq, cond_true, cond_false]) (by rw [HG.out]; exact j4.out) hM.out (by rw [HG.out]; exact fun _ _ h => h) (by rw [HG.out]; exact E6.out.symm))
          · intro bf ac wv hfb haf hJ K' hK
            obtain ⟨vs, rfl, hM, j4⟩ := hJ
            replace hK := Lib.hid hK
            replace hM := Lib.hid hM
            rw [HG.out] at j4
            simp [Region.binds] at haf
            have e1 := ((j4 1 (by simp [haf]))).trans E1.out
            replace j4 := Lib.hid j4
            clear haf hfb
            rw [HLIT.out]
            go_simp
            exact hK.out _ _ (RS.next (wv := wv) (vs := vs) 7 (x := .slice (some ⟨g, 0, none⟩) a.length gc) (by rw [HLIT.out]; simp only [upv, e1, Nat.reduceBEq, cond_true, cond_false]) (by rw [HG.out]; exact j4.out) hM.out (by rw [HG.out]; exact fun _ _ h => h) (by rw [HG.out]; exact E7.out.symm))
          · intro bf ac wv hfb haf hJ K' hK
            obtain ⟨vs, rfl, hM, j4⟩ := hJ
            replace hK := Lib.hid hK
            replace hM := Lib.hid hM
            rw [HG.out] at j4
            simp [Region.binds] at haf
            have e1 := ((j4 1 (by simp [haf]))).trans E1.out
            replace j4 := Lib.hid j4
            clear haf hfb
            rw [HLIT.out]
            go_simp
            exact hK.out _ _ (RS.next (wv := wv) (vs := vs) 8 (x := .int .i64 j) (by rw [HLIT.out]; simp only [upv, e1, Nat.reduceBEq, cond_true, cond_false]) (by rw [HG.out]; exact j4.out) hM.out (by rw [HG.out]; exact fun _ _ h => h) (by rw [HG.out]; exact E8.out.symm))
          · intro bf ac wv hfb haf hJ K' hK
            obtain ⟨vs, rfl, hM, j4⟩ := hJ
            replace hK := Lib.hid hK
            replace hM := Lib.hid hM
            rw [HG.out] at j4
            simp [Region.binds] at haf
            have e1 := ((j4 1 (by simp [haf]))).trans E1.out
            have e7 := ((j4 7 (by simp [haf]))).trans E7.out
            have e8 := ((j4 8 (by simp [haf]))).trans E8.out
            replace j4 := Lib.hid j4
            clear haf hfb
            have hn1 : (j : Int) < a.length := by have := hjl.out; omega
            have hn2 : (0 : Int) ≤ (j : Int) := by omega
            have hn3 : j < a.length := hjl.out
            rw [HLIT.out]
            go_simp
            exact hK.out _ _ (RS.next (wv := wv) (vs := vs) 9 (x := .pointer (some ⟨g, j, none⟩)) (by rw [HLIT.out]; simp only [upv, e1, e7, e8, Nat.reduceBEq, cond_true, cond_false]) (by rw [HG.out]; exact j4.out) hM.out (by rw [HG.out]; exact fun _ _ h => h) (by rw [HG.out]; exact E9.out.symm))
          · intro bf ac wv hfb haf hJ K' hK
            obtain ⟨vs, rfl, hM, j4⟩ := hJ
            replace hK := Lib.hid hK
            replace hM := Lib.hid hM
            rw [HG.out] at j4
            simp [Region.binds] at haf
            have e1 := ((j4 1 (by simp [haf]))).trans E1.out
            have e9 := ((j4 9 (by simp [haf]))).trans E9.out
            replace j4 := Lib.hid j4
            clear haf hfb
            have xg := keep1 hM.out Y0.out
            have xgz := World.block_lt_of_cell? _ _ xg
            have xgz : g < wv.heap.size := xgz
            rw [HLIT.out]
            go_simp
            exact hK.out _ _ (RS.next (wv := wv) (vs := vs) 10 (x := .int .i64 o) (by rw [HLIT.out]; simp only [upv, e1, e9, Nat.reduceBEq, cond_true, cond_false]) (by rw [HG.out]; exact j4.out) hM.out (by rw [HG.out]; exact fun _ _ h => h) (by rw [HG.out]; exact E10.out.symm))
          · intro bf ac wv hfb haf hJ K' hK
            obtain ⟨vs, rfl, hM, j4⟩ := hJ
            replace hK := Lib.hid hK
            replace hM := Lib.hid hM
            rw [HG.out] at j4
            simp [Region.binds] at haf
            have e1 := ((j4 1 (by simp [haf]))).trans E1.out
            have e10 := ((j4 10 (by simp [haf]))).trans E10.out
            replace j4 := Lib.hid j4
            clear haf hfb
            rw [HLIT.out]
            go_simp
            go_at_call 29
            refine (rrem_any o 2147483647 _ (by omega) (by omega)).mono ?_
            rintro e w4 ⟨rfl, rfl⟩
            have b4 := Below.refl wv.heap.size wv
            rw [hro.out]
            exact hK.out _ _ (RS.next (wv := wv) (vs := vs) 11 (x := .int .i64 ro) (by rw [HLIT.out]; simp only [upv, e1, e10, Nat.reduceBEq, cond_true, cond_false]) (by rw [HG.out]; exact j4.out) (keep2 b4 hM.out) (by rw [HG.out]; exact fun _ _ h => h) (by rw [HG.out]; exact E11.out.symm))
          · intro bf ac wv hfb haf hJ K' hK
            obtain ⟨vs, rfl, hM, j4⟩ := hJ
            replace hK := Lib.hid hK
            replace hM := Lib.hid hM
            rw [HG.out] at j4
            simp [Region.binds] at haf
            have e1 := ((j4 1 (by simp [haf]))).trans E1.out
            replace j4 := Lib.hid j4
            clear haf hfb
            rw [HLIT.out]
            go_simp
            exact hK.out _ _ (RS.next (wv := wv) (vs := vs) 12 (x := .slice (some ⟨bb, off, none⟩) a.length ac) (by rw [HLIT.out]; simp only [upv, e1, Nat.reduceBEq, cond_true, cond_false]) (by rw [HG.out]; exact j4.out) hM.out (by rw [HG.out]; exact fun _ _ h => h) (by rw [HG.out]; exact E12.out.symm))
          · intro bf ac wv hfb haf hJ K' hK
            obtain ⟨vs, rfl, hM, j4⟩ := hJ
            replace hK := Lib.hid hK
            replace hM := Lib.hid hM
            rw [HG.out] at j4
            simp [Region.binds] at haf
            have e1 := ((j4 1 (by simp [haf]))).trans E1.out
            replace j4 := Lib.hid j4
            clear haf hfb
            rw [HLIT.out]
            go_simp
            exact hK.out _ _ (RS.next (wv := wv) (vs := vs) 13 (x := .int .i64 j) (by rw [HLIT.out]; simp only [upv, e1, Nat.reduceBEq, cond_true, cond_false]) (by rw [HG.out]; exact j4.out) hM.out (by rw [HG.out]; exact fun _ _ h => h) (by rw [HG.out]; exact E13.out.symm))
          · intro bf ac wv hfb haf hJ K' hK
            obtain ⟨vs, rfl, hM, j4⟩ := hJ
            replace hK := Lib.hid hK
            replace hM := Lib.hid hM
            rw [HG.out] at j4
            simp [Region.binds] at haf
            have e1 := ((j4 1 (by simp [haf]))).trans E1.out
            have e12 := ((j4 12 (by simp [haf]))).trans E12.out
            have e13 := ((j4 13 (by simp [haf]))).trans E13.out
            replace j4 := Lib.hid j4
            clear haf hfb
            have hn1 : (j : Int) < a.length := by have := hjl.out; omega
            have hn2 : (0 : Int) ≤ (j : Int) := by omega
            have hn3 : j < a.length := hjl.out
            rw [HLIT.out]
            go_simp
            exact hK.out _ _ (RS.next (wv := wv) (vs := vs) 14 (x := .pointer (some ⟨bb, off + j, none⟩)) (by rw [HLIT.out]; simp only [upv, e1, e12, e13, Nat.reduceBEq, cond_true, cond_false]) (by rw [HG.out]; exact j4.out) hM.out (by rw [HG.out]; exact fun _ _ h => h) (by rw [HG.out]; exact E14.out.symm))
          · intro bf ac wv hfb haf hJ K' hK
            obtain ⟨vs, rfl, hM, j4⟩ := hJ
            replace hK := Lib.hid hK
            replace hM := Lib.hid hM
            rw [HG.out] at j4
            simp [Region.binds] at haf
            have e1 := ((j4 1 (by simp [haf]))).trans E1.out
            have e14 := ((j4 14 (by simp [haf]))).trans E14.out
            replace j4 := Lib.hid j4
            clear haf hfb
            have xg := keep1 hM.out X0.out
            have xgz := World.block_lt_of_cell? _ _ xg
            have xgz : bb < wv.heap.size := xgz
            rw [HLIT.out]
            go_simp
            exact hK.out _ _ (RS.next (wv := wv) (vs := vs) 15 (x := .int .i64 y) (by rw [HLIT.out]; simp only [upv, e1, e14, Nat.reduceBEq, cond_true, cond_false]) (by rw [HG.out]; exact j4.out) hM.out (by rw [HG.out]; exact fun _ _ h => h) (by rw [HG.out]; exact E15.out.symm))
          · intro bf ac wv hfb haf hJ K' hK
            obtain ⟨vs, rfl, hM, j4⟩ := hJ
            replace hK := Lib.hid hK
            replace hM := Lib.hid hM
            rw [HG.out] at j4
            simp [Region.binds] at haf
            have e1 := ((j4 1 (by simp [haf]))).trans E1.out
            have e15 := ((j4 15 (by simp [haf]))).trans E15.out
            replace j4 := Lib.hid j4
            clear haf hfb
            rw [HLIT.out]
            go_simp
            go_at_call 29
            refine (rrem_any y 2147483647 _ (by omega) (by omega)).mono ?_
            rintro e w4 ⟨rfl, rfl⟩
            have b4 := Below.refl wv.heap.size wv
            rw [hry.out]
            exact hK.out _ _ (RS.next (wv := wv) (vs := vs) 16 (x := .int .i64 ry) (by rw [HLIT.out]; simp only [upv, e1, e15, Nat.reduceBEq, cond_true, cond_false]) (by rw [HG.out]; exact j4.out) (keep2 b4 hM.out) (by rw [HG.out]; exact fun _ _ h => h) (by rw [HG.out]; exact E16.out.symm))
          · intro bf ac wv hfb haf hJ K' hK
            obtain ⟨vs, rfl, hM, j4⟩ := hJ
            replace hK := Lib.hid hK
            replace hM := Lib.hid hM
            rw [HG.out] at j4
            simp [Region.binds] at haf
            have e1 := ((j4 1 (by simp [haf]))).trans E1.out
            have e11 := ((j4 11 (by simp [haf]))).trans E11.out
            have e16 := ((j4 16 (by simp [haf]))).trans E16.out
            replace j4 := Lib.hid j4
            clear haf hfb
            have q1 := HDQ.out
            have q2 : (ro = ry) = False := by have := HDQ.out; simpa using this
            rw [HLIT.out]
            go_simp
            exact hK.out _ _ (RS.next (wv := wv) (vs := vs) 17 (x := .bool false) (by rw [HLIT.out]; simp only [upv, e1, e11, e16, Nat.reduceBEq, cond_true, cond_false]) (by rw [HG.out]; exact j4.out) hM.out (by rw [HG.out]; exact fun _ _ h => h) (by rw [HG.out]; exact E17.out.symm))
          · intro bf ac wv hfb haf hJ K' hK
            obtain ⟨vs, rfl, hM, j4⟩ := hJ
            replace hK := Lib.hid hK
            replace hM := Lib.hid hM
            rw [HG.out] at j4
            simp [Region.binds] at haf
            have e1 := ((j4 1 (by simp [haf]))).trans E1.out
            have e6 := ((j4 6 (by simp [haf]))).trans E6.out
            have e17 := ((j4 17 (by simp [haf]))).trans E17.out
            replace j4 := Lib.hid j4
            clear haf hfb
            rw [HLIT.out]
            go_simp
            exact hK.out _ _ (RS.next (wv := wv) (vs := vs) 18 (x := .bool true) (by rw [HLIT.out]; simp only [upv, e1, e6, e17, Nat.reduceBEq, cond_true, cond_false]) (by rw [HG.out]; exact j4.out) hM.out (by rw [HG.out]; exact fun _ _ h => h) (by rw [HG.out]; exact E18.out.symm))
          · intro bf ac wv hfb haf hJ K' hK
            obtain ⟨vs, rfl, hM, j4⟩ := hJ
            replace hK := Lib.hid hK
            replace hM := Lib.hid hM
            rw [HG.out] at j4
            simp [Region.binds] at haf
            have e1 := ((j4 1 (by simp [haf]))).trans E1.out
            have e18 := ((j4 18 (by simp [haf]))).trans E18.out
            replace j4 := Lib.hid j4
            clear haf hfb
            rw [HLIT.out]
            go_simp
            exact hK.out _ _ (RS.next (wv := wv) (vs := vs) 19 (x := .bool true) (by rw [HLIT.out]; simp only [upv, e1, e18, Nat.reduceBEq, cond_true, cond_false]) (by rw [HG.out]; exact j4.out) hM.out (by rw [HG.out]; exact fun _ _ h => h) (by rw [HG.out]; exact E19.out.symm))
          · intro bf ac wv hfb haf hJ K' hK
            obtain ⟨vs, rfl, hM, j4⟩ := hJ
            replace hK := Lib.hid hK
            replace hM := Lib.hid hM
            rw [HG.out] at j4
            simp [Region.binds] at haf
            have e19 := ((j4 19 (by simp [haf]))).trans E19.out
            replace j4 := Lib.hid j4
            clear haf hfb
            rw [HLIT.out]
            go_simp
            exact hK.out _ _ (RS.next (wv := wv) (vs := vs) 20 (x := .bool true) (by rw [HLIT.out]; simp only [upv, e19, Nat.reduceBEq, cond_true, cond_false]) (by rw [HG.out]; exact j4.out) hM.out (by rw [HG.out]; exact fun _ _ h => h) (by rw [HG.out]; exact E20.out.symm))
        · intro bf ac wv hall hJ
          obtain ⟨vs, rfl, hM, j4⟩ := hJ
          rw [HG.out] at j4
          have e20 := ((j4 20 (hall 20 (by decide)))).trans E20.out
          have HB9 := Lib.hid (keep2 hM HBP.out)
          clear hM hall j4
          rw [HLIT.out]
          dsimp only
          rw [e20]
          clear e20
          go_wp2
          go_ret
          exact ⟨rfl, HB9.out⟩
theorem dig_any (v : Value) (a : List Int) (v2 : Value) (b : List Int) (t o : Int) (w : World) (h : IntsAt w v a) (h2 : IntsAt w v2 b) (t0 : 0 ≤ t) (t9 : t ≤ 255) (o0 : -2147483648 ≤ o) (o9 : o ≤ 2147483647) : Calls Try.prog 4 #[v, v2, .int .u8 t, .int .i32 o] w fun e w' => e = .returned (.bool true) ∧ Below w.heap.size w w' := by
  by_cases h1 : 100 < a.length
  · exact dig_a v a v2 b t o w h h2 t0 t9 o0 o9 h1
  · by_cases h3 : 100 < b.length
    · exact dig_b v a v2 b t o w h h2 t0 t9 o0 o9 (by omega) h3
    · exact dig_main v a v2 b t o w h h2 t0 t9 o0 o9 (by omega) (by omega)
end Go.Proofs.Ytkmplekfcalggaa
