/- Hash trees: 'head'. -/
import Derived.Test.YtkmplekfcalggaaGj
namespace Go.Proofs.Ytkmplekfcalggaa
open Go.RowKit

theorem sum_any (v : Value) (l : List Int) (w : World) (h : IntsAt w v l) : Calls Try.prog 15 #[v] w fun e w' => e = .returned (.int .i64 (Dg l)) ∧ w = w' := by
  have H := Lib.hid h
  obtain ⟨a, cap, rfl, -, -⟩ := h
  go_enter Try.func15, Try.ntmps15
  go_wp2_with fail
  refine (digest_any _ l _ H.out).mono ?_
  rintro e w' ⟨rfl, rfl⟩
  go_wp2
  go_ret
  exact ⟨rfl, rfl⟩
theorem rows3 {W : World} {b : Nat} {u0 u1 u2 : Value} {x0 x1 x2 : List Int} (hc : Cs W b #[u0, u1, u2]) (h0 : IntsAt W u0 x0) (h1 : IntsAt W u1 x1) (h2 : IntsAt W u2 x2) : RowsAt W (.slice (some ⟨b, 0, none⟩) 3 3) [x0, x1, x2] := by
  refine ⟨_, _, rfl, by unfold maxLen; simp, fun _ => ⟨b, 0, rfl, fun i x hi => ?_⟩⟩
  rcases i with _ | _ | _ | i
  · cases hi; exact ⟨_, hc.c 0 rfl, h0⟩
  · cases hi; exact ⟨_, hc.c 1 rfl, h1⟩
  · cases hi; exact ⟨_, hc.c 2 rfl, h2⟩
  · simp at hi
theorem hd_root : rtL [[1], [2, 3], []] = 1942709934 := by decide +kernel
theorem hd_climb : clH [2, 3] 1 (pthA [[1], [2, 3], []] 1) = 1942709934 := by decide +kernel
theorem hd_len : (clL [2, 3] 1 (pthA [[1], [2, 3], []] 1)).length = 4 := by decide +kernel
theorem hd_none : clH [] (-1) [] = 0 ∧ clL [] (-1) [] = [] := by decide +kernel
theorem hd_nil : rtL [] = 7 := by decide +kernel
theorem hd_path : pthA [[1], [2, 3], []] 3 = [] := by decide +kernel
theorem hd_sum0 : Dg [] = 7 := by decide +kernel
theorem hd_sum1 : Dg [0] = 7000022 := by decide +kernel
theorem hd_sum2 : Dg [2147483647] = 7000022 := by decide +kernel
theorem hd_sum3 : Dg [-1] = Dg [2147483646] := by decide +kernel
theorem hd_tag : Dg (5 :: (([6] : List Int).length : Int) :: [6]) = 873171735 := by decide +kernel
theorem hd_tag2 : Dg [5, 1, 6] = 873171735 := by decide +kernel
theorem hd_pub0 : pw 7 0 = 1 := by decide +kernel
theorem hd_pub1 : pw 7 1 = 7 := by decide +kernel
theorem hd_pub2 : pw 7 2 = 49 := by decide +kernel
theorem hd_pub5 : pw 7 5 = 16807 := by decide +kernel
theorem hd_sh : pw 16807 3 = 1622650073 := by decide +kernel
theorem hd_pub15 : pw 7 15 = 1622650073 := by decide +kernel
def fpw : Nat → Int → Int → Nat → Int
  | 0, o, _, _ => o
  | f + 1, o, b, n => fpw f (if n % 2 = 1 then (o * b) % 2147483647 else o) ((b * b) % 2147483647) (n / 2)
theorem fpw_eq : ∀ (f : Nat) (o b : Int) (n : Nat), n < 2 ^ f → (o * pwn b n) % 2147483647 = fpw f o b n % 2147483647
  | 0, o, b, n, h => by
    obtain rfl : n = 0 := by simpa using h
    rw [pwn_zero, Int.mul_one]; rfl
  | f + 1, o, b, n, h => by
    rw [pwn_round]
    exact fpw_eq f _ _ _ (by rw [Nat.pow_succ] at h; omega)
theorem hd_inv : pw 7 (-1) = 1840700269 := by
  have h := fpw_eq 32 1 7 (ex (-1)) (by decide +kernel)
  rw [Int.one_mul, Int.emod_eq_of_lt (pwn_bd _ _).1 (pwn_bd _ _).2] at h
  rw [show pw 7 (-1) = pwn 7 (ex (-1)) from rfl, h]
  decide +kernel
theorem rows_nil (w : World) : RowsAt w (.slice none 0 0) [] := ⟨none, 0, rfl, by simp, fun h => absurd rfl h⟩
set_option maxRecDepth 100000 in
set_option maxHeartbeats 16000000 in
theorem head_any (w : World) : Calls Try.prog 11 #[] w fun e w' => e = .returned (.bool true) ∧ Below w.heap.size w w' := by
  have HB0 := Lib.hid (Below.refl w.heap.size w)
  go_enter Try.func11, Try.ntmps11
  have FA_1 := Lib.hid (ints_lit w [1] #[.int .i64 1] 3 rfl (by simp) 1 rfl (w.heap.size) (by simp))
  have HB2 : Hid (Below w.heap.size w (w.alloc (.cells #[.int .i64 1] 3))) := HB0.out.alloc HB0.out.size _
  clear HB0
  have FA_3 := Lib.hid (FA_1.out.step (al (w.alloc (.cells #[.int .i64 1] 3)) (.cells #[.int .i64 2, .int .i64 3] 3)))
  clear FA_1
  have FB_4 := Lib.hid (ints_lit (w.alloc (.cells #[.int .i64 1] 3)) [2, 3] #[.int .i64 2, .int .i64 3] 3 rfl (by simp) 2 rfl (w.heap.size + 1) (by simp))
  have HB5 : Hid (Below w.heap.size w ((w.alloc (.cells #[.int .i64 1] 3)).alloc (.cells #[.int .i64 2, .int .i64 3] 3))) := HB2.out.alloc HB2.out.size _
  clear HB2
  have FA_6 := Lib.hid (FA_3.out.step (al ((w.alloc (.cells #[.int .i64 1] 3)).alloc (.cells #[.int .i64 2, .int .i64 3] 3)) (.cells #[] 3)))
  clear FA_3
  have FB_7 := Lib.hid (FB_4.out.step (al ((w.alloc (.cells #[.int .i64 1] 3)).alloc (.cells #[.int .i64 2, .int .i64 3] 3)) (.cells #[] 3)))
  clear FB_4
  have FC_8 := Lib.hid (ints_lit ((w.alloc (.cells #[.int .i64 1] 3)).alloc (.cells #[.int .i64 2, .int .i64 3] 3)) [] #[] 3 rfl (by simp) 0 rfl (w.heap.size + 1 + 1) (by simp))
  have HB9 : Hid (Below w.heap.size w (((w.alloc (.cells #[.int .i64 1] 3)).alloc (.cells #[.int .i64 2, .int .i64 3] 3)).alloc (.cells #[] 3))) := HB5.out.alloc HB5.out.size _
  clear HB5
  have FA_10 := Lib.hid (FA_6.out.step (al (((w.alloc (.cells #[.int .i64 1] 3)).alloc (.cells #[.int .i64 2, .int .i64 3] 3)).alloc (.cells #[] 3)) (.cells #[.slice (some ⟨w.heap.size, 0, none⟩) 1 1, .slice (some ⟨w.heap.size + 1, 0, none⟩) 2 2, .slice (some ⟨w.heap.size + 1 + 1, 0, none⟩) 0 0] 22)))
  clear FA_6
  have FB_11 := Lib.hid (FB_7.out.step (al (((w.alloc (.cells #[.int .i64 1] 3)).alloc (.cells #[.int .i64 2, .int .i64 3] 3)).alloc (.cells #[] 3)) (.cells #[.slice (some ⟨w.heap.size, 0, none⟩) 1 1, .slice (some ⟨w.heap.size + 1, 0, none⟩) 2 2, .slice (some ⟨w.heap.size + 1 + 1, 0, none⟩) 0 0] 22)))
  clear FB_7
  have FC_12 := Lib.hid (FC_8.out.step (al (((w.alloc (.cells #[.int .i64 1] 3)).alloc (.cells #[.int .i64 2, .int .i64 3] 3)).alloc (.cells #[] 3)) (.cells #[.slice (some ⟨w.heap.size, 0, none⟩) 1 1, .slice (some ⟨w.heap.size + 1, 0, none⟩) 2 2, .slice (some ⟨w.heap.size + 1 + 1, 0, none⟩) 0 0] 22)))
  clear FC_8
  have FRC_13 := Lib.hid (Cs.new (((w.alloc (.cells #[.int .i64 1] 3)).alloc (.cells #[.int .i64 2, .int .i64 3] 3)).alloc (.cells #[] 3)) (w.heap.size + 1 + 1 + 1) #[.slice (some ⟨w.heap.size, 0, none⟩) 1 1, .slice (some ⟨w.heap.size + 1, 0, none⟩) 2 2, .slice (some ⟨w.heap.size + 1 + 1, 0, none⟩) 0 0] 22 (by simp))
  have HB14 : Hid (Below w.heap.size w ((((w.alloc (.cells #[.int .i64 1] 3)).alloc (.cells #[.int .i64 2, .int .i64 3] 3)).alloc (.cells #[] 3)).alloc (.cells #[.slice (some ⟨w.heap.size, 0, none⟩) 1 1, .slice (some ⟨w.heap.size + 1, 0, none⟩) 2 2, .slice (some ⟨w.heap.size + 1 + 1, 0, none⟩) 0 0] 22))) := HB9.out.alloc HB9.out.size _
  clear HB9
  have FR_15 := Lib.hid (rows3 FRC_13.out FA_10.out FB_11.out FC_12.out)
  clear FA_10
  clear FB_11
  clear FC_12
  clear FRC_13
  have FR_16 := Lib.hid (FR_15.out.step (al ((((w.alloc (.cells #[.int .i64 1] 3)).alloc (.cells #[.int .i64 2, .int .i64 3] 3)).alloc (.cells #[] 3)).alloc (.cells #[.slice (some ⟨w.heap.size, 0, none⟩) 1 1, .slice (some ⟨w.heap.size + 1, 0, none⟩) 2 2, .slice (some ⟨w.heap.size + 1 + 1, 0, none⟩) 0 0] 22)) (.cells #[.int .i64 2, .int .i64 3] 3)))
  clear FR_15
  have FD_17 := Lib.hid (ints_lit ((((w.alloc (.cells #[.int .i64 1] 3)).alloc (.cells #[.int .i64 2, .int .i64 3] 3)).alloc (.cells #[] 3)).alloc (.cells #[.slice (some ⟨w.heap.size, 0, none⟩) 1 1, .slice (some ⟨w.heap.size + 1, 0, none⟩) 2 2, .slice (some ⟨w.heap.size + 1 + 1, 0, none⟩) 0 0] 22)) [2, 3] #[.int .i64 2, .int .i64 3] 3 rfl (by simp) 2 rfl (w.heap.size + 1 + 1 + 1 + 1) (by simp))
  have HB18 : Hid (Below w.heap.size w (((((w.alloc (.cells #[.int .i64 1] 3)).alloc (.cells #[.int .i64 2, .int .i64 3] 3)).alloc (.cells #[] 3)).alloc (.cells #[.slice (some ⟨w.heap.size, 0, none⟩) 1 1, .slice (some ⟨w.heap.size + 1, 0, none⟩) 2 2, .slice (some ⟨w.heap.size + 1 + 1, 0, none⟩) 0 0] 22)).alloc (.cells #[.int .i64 2, .int .i64 3] 3))) := HB14.out.alloc HB14.out.size _
  clear HB14
  go_wp2_with fail
  refine (path_any _ [[1], [2, 3], []] 1 _ FR_16.out).mono ?_
  rintro e u1 ⟨pu, rfl, hp, b1⟩
  have FR_19 := Lib.hid (FR_16.out.step b1)
  clear FR_16
  have FD_20 := Lib.hid (FD_17.out.step b1)
  clear FD_17
  have HB21 := Lib.hid (keep2 b1 HB18.out)
  clear HB18 b1
  have FP_22 := Lib.hid (hp)
  clear hp
  go_wp2_with fail
  refine (climb_any _ pu [2, 3] (pthA [[1], [2, 3], []] 1) 1 _ FD_20.out FP_22.out (by simp) (by omega)).mono ?_
  rintro e u2 ⟨⟨cu, rfl, hc⟩, b2⟩
  have FR_23 := Lib.hid (FR_19.out.step b2)
  clear FR_19
  have FD_24 := Lib.hid (FD_20.out.step b2)
  clear FD_20
  have FP_25 := Lib.hid (FP_22.out.step b2)
  clear FP_22
  have HB26 := Lib.hid (keep2 b2 HB21.out)
  clear HB21 b2
  obtain ⟨ca, cc, rfl⟩ := hc.slice
  clear hc
  rw [hd_climb, hd_len]
  clear FD_24
  clear FP_25
  go_wp2_with fail
  refine (climb_no (.slice none 0 0) (.slice none 0 0) [] [] (-1) _ (ints_nil _) (ints_nil _) (by decide)).mono ?_
  rintro e u3 ⟨rfl, b3⟩
  have FR_27 := Lib.hid (FR_23.out.step b3)
  clear FR_23
  have HB28 := Lib.hid (keep2 b3 HB26.out)
  clear HB26 b3
  go_wp2_with fail
  refine (sum_any _ [] _ (ints_nil _)).mono ?_
  rintro e w' ⟨rfl, rfl⟩
  rw [hd_sum0]
  have FR_29 := Lib.hid (FR_27.out.step (al u3 (.cells #[.int .i64 0] 3)))
  clear FR_27
  have FE_30 := Lib.hid (ints_lit u3 [0] #[.int .i64 0] 3 rfl (by simp) 1 rfl (u3.heap.size) (by simp))
  have HB31 : Hid (Below w.heap.size w (u3.alloc (.cells #[.int .i64 0] 3))) := HB28.out.alloc HB28.out.size _
  clear HB28
  go_wp2_with fail
  refine (sum_any _ [0] _ FE_30.out).mono ?_
  rintro e w' ⟨rfl, rfl⟩
  rw [hd_sum1]
  clear FE_30
  have FR_32 := Lib.hid (FR_29.out.step (al (u3.alloc (.cells #[.int .i64 0] 3)) (.cells #[.int .i64 2147483647] 3)))
  clear FR_29
  have FF_33 := Lib.hid (ints_lit (u3.alloc (.cells #[.int .i64 0] 3)) [2147483647] #[.int .i64 2147483647] 3 rfl (by simp) 1 rfl (u3.heap.size + 1) (by simp))
  have HB34 : Hid (Below w.heap.size w ((u3.alloc (.cells #[.int .i64 0] 3)).alloc (.cells #[.int .i64 2147483647] 3))) := HB31.out.alloc HB31.out.size _
  clear HB31
  go_wp2_with fail
  refine (sum_any _ [2147483647] _ FF_33.out).mono ?_
  rintro e w' ⟨rfl, rfl⟩
  rw [hd_sum2]
  clear FF_33
  obtain ⟨dz, hdz⟩ : ∃ z, Dg [2147483646] = z := ⟨_, rfl⟩
  replace hdz := Lib.hid hdz
  have FR_35 := Lib.hid (FR_32.out.step (al ((u3.alloc (.cells #[.int .i64 0] 3)).alloc (.cells #[.int .i64 2147483647] 3)) (.cells #[.int .i64 (-1)] 3)))
  clear FR_32
  have FG_36 := Lib.hid (ints_lit ((u3.alloc (.cells #[.int .i64 0] 3)).alloc (.cells #[.int .i64 2147483647] 3)) [(-1)] #[.int .i64 (-1)] 3 rfl (by simp) 1 rfl (u3.heap.size + 1 + 1) (by simp))
  have HB37 : Hid (Below w.heap.size w (((u3.alloc (.cells #[.int .i64 0] 3)).alloc (.cells #[.int .i64 2147483647] 3)).alloc (.cells #[.int .i64 (-1)] 3))) := HB34.out.alloc HB34.out.size _
  clear HB34
  go_wp2_with fail
  refine (sum_any _ [(-1)] _ FG_36.out).mono ?_
  rintro e w' ⟨rfl, rfl⟩
  rw [hd_sum3, hdz.out]
  clear FG_36
  have FR_38 := Lib.hid (FR_35.out.step (al (((u3.alloc (.cells #[.int .i64 0] 3)).alloc (.cells #[.int .i64 2147483647] 3)).alloc (.cells #[.int .i64 (-1)] 3)) (.cells #[.int .i64 2147483646] 3)))
  clear FR_35
  have FI_39 := Lib.hid (ints_lit (((u3.alloc (.cells #[.int .i64 0] 3)).alloc (.cells #[.int .i64 2147483647] 3)).alloc (.cells #[.int .i64 (-1)] 3)) [2147483646] #[.int .i64 2147483646] 3 rfl (by simp) 1 rfl (u3.heap.size + 1 + 1 + 1) (by simp))
  have HB40 : Hid (Below w.heap.size w ((((u3.alloc (.cells #[.int .i64 0] 3)).alloc (.cells #[.int .i64 2147483647] 3)).alloc (.cells #[.int .i64 (-1)] 3)).alloc (.cells #[.int .i64 2147483646] 3))) := HB37.out.alloc HB37.out.size _
  clear HB37
  go_wp2_with fail
  refine (sum_any _ [2147483646] _ FI_39.out).mono ?_
  rintro e w' ⟨rfl, rfl⟩
  rw [hdz.out]
  clear FI_39
  have FR_41 := Lib.hid (FR_38.out.step (al ((((u3.alloc (.cells #[.int .i64 0] 3)).alloc (.cells #[.int .i64 2147483647] 3)).alloc (.cells #[.int .i64 (-1)] 3)).alloc (.cells #[.int .i64 2147483646] 3)) (.cells #[.int .i64 6] 3)))
  clear FR_38
  have FJ_42 := Lib.hid (ints_lit ((((u3.alloc (.cells #[.int .i64 0] 3)).alloc (.cells #[.int .i64 2147483647] 3)).alloc (.cells #[.int .i64 (-1)] 3)).alloc (.cells #[.int .i64 2147483646] 3)) [6] #[.int .i64 6] 3 rfl (by simp) 1 rfl (u3.heap.size + 1 + 1 + 1 + 1) (by simp))
  have HB43 : Hid (Below w.heap.size w (((((u3.alloc (.cells #[.int .i64 0] 3)).alloc (.cells #[.int .i64 2147483647] 3)).alloc (.cells #[.int .i64 (-1)] 3)).alloc (.cells #[.int .i64 2147483646] 3)).alloc (.cells #[.int .i64 6] 3))) := HB40.out.alloc HB40.out.size _
  clear HB40
  go_wp2_with fail
  refine (tag_any 5 _ [6] _ FJ_42.out (by simp) (by simp)).mono ?_
  rintro e u4 ⟨rfl, b4⟩
  have FR_44 := Lib.hid (FR_41.out.step b4)
  clear FR_41
  have FJ_45 := Lib.hid (FJ_42.out.step b4)
  clear FJ_42
  have HB46 := Lib.hid (keep2 b4 HB43.out)
  clear HB43 b4
  rw [hd_tag]
  clear FJ_45
  have FR_47 := Lib.hid (FR_44.out.step (al u4 (.cells #[.int .i64 5, .int .i64 1, .int .i64 6] 3)))
  clear FR_44
  have FK_48 := Lib.hid (ints_lit u4 [5, 1, 6] #[.int .i64 5, .int .i64 1, .int .i64 6] 3 rfl (by simp) 3 rfl (u4.heap.size) (by simp))
  have HB49 : Hid (Below w.heap.size w (u4.alloc (.cells #[.int .i64 5, .int .i64 1, .int .i64 6] 3))) := HB46.out.alloc HB46.out.size _
  clear HB46
  go_wp2_with fail
  refine (sum_any _ [5, 1, 6] _ FK_48.out).mono ?_
  rintro e w' ⟨rfl, rfl⟩
  rw [hd_tag2]
  clear FK_48
  go_wp2_with fail
  refine (public_any 0 _).mono ?_
  rintro e w' ⟨rfl, rfl⟩
  rw [hd_pub0]
  go_wp2_with fail
  refine (public_any 1 _).mono ?_
  rintro e w' ⟨rfl, rfl⟩
  rw [hd_pub1]
  go_wp2_with fail
  refine (public_any 2 _).mono ?_
  rintro e w' ⟨rfl, rfl⟩
  rw [hd_pub2]
  go_wp2_with fail
  refine (public_any 5 _).mono ?_
  rintro e w' ⟨rfl, rfl⟩
  rw [hd_pub5]
  go_wp2_with fail
  refine (shared_any 3 16807 _).mono ?_
  rintro e w' ⟨rfl, rfl⟩
  rw [hd_sh]
  go_wp2_with fail
  refine (public_any 15 _).mono ?_
  rintro e w' ⟨rfl, rfl⟩
  rw [hd_pub15]
  go_wp2_with fail
  refine (public_any (-1) _).mono ?_
  rintro e w' ⟨rfl, rfl⟩
  rw [hd_inv]
  go_wp2_with fail
  refine (root_any _ [[1], [2, 3], []] _ FR_47.out).mono ?_
  rintro e u5 ⟨rfl, b5⟩
  have FR_50 := Lib.hid (FR_47.out.step b5)
  clear FR_47
  have HB51 := Lib.hid (keep2 b5 HB49.out)
  clear HB49 b5
  rw [hd_root]
  go_wp2_with fail
  refine (root_any _ [] _ (rows_nil _)).mono ?_
  rintro e u6 ⟨rfl, b6⟩
  have FR_52 := Lib.hid (FR_50.out.step b6)
  clear FR_50
  have HB53 := Lib.hid (keep2 b6 HB51.out)
  clear HB51 b6
  rw [hd_nil]
  go_wp2_with fail
  refine (path_any _ [[1], [2, 3], []] 3 _ FR_52.out).mono ?_
  rintro e u7 ⟨qu, rfl, hq, b7⟩
  have FR_54 := Lib.hid (FR_52.out.step b7)
  clear FR_52
  have HB55 := Lib.hid (keep2 b7 HB53.out)
  clear HB53 b7
  rw [hd_path] at hq
  obtain ⟨qa, qc, rfl, -, -⟩ := hq
  go_wp2
  go_ret
  exact ⟨rfl, HB55.out⟩
end Go.Proofs.Ytkmplekfcalggaa
