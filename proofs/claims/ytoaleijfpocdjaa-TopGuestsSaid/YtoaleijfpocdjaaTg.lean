/- Guests: the example. -/
import Derived.Test.YtoaleijfpocdjaaTs
import Derived.Test.YtoaleijfpocdjaaTr
namespace Go.Proofs.Ytoaleijfpocdjaa
open Go.RowKit

/-- The tags of the example. -/
def gA : Int := tk (tg0 9 5) [⟨1, 1⟩] 1
def gB : Int := tgN gA ⟨4, 100⟩
theorem g_md : mdB 9 5 [⟨1, 1⟩] = true := by decide +kernel
theorem g_nr : nrE 5 gA [⟨1, 1⟩] 4 100 = 0 := by decide +kernel
theorem g_bd : 0 ≤ gA ∧ gA ≤ 2147483646 := by decide +kernel
theorem g_ck : ckR 9 [] 5 gB [⟨1, 1⟩, ⟨4, 100⟩] 1 0 0 50 0 = 0 ∧ ckR 9 [gA] 5 gA [⟨1, 1⟩] 1 0 0 50 0 = 21 ∧ ckR 9 [gA] 5 gB [⟨1, 1⟩, ⟨4, 100⟩] 1 0 0 50 0 = 21 := by decide +kernel
theorem so_one {L : List Int} {n : Int} (h : So L [n]) : L = [n] := inc_ext (st_iff.1 h.1).1.2 (by simp) h.2.2
theorem cv_one (w : World) (k v : Int) (b : Nat) (hb : b = w.heap.size) : CvsAt (w.alloc (.cells #[.int .i64 k, .int .i64 v] 24)) (.slice (some ⟨b, 0, none⟩) 1 1) [⟨k, v⟩] := by
  have h := Cs.new w b #[.int .i64 k, .int .i64 v] 24 hb
  refine ⟨_, 1, rfl, by simp, by unfold maxLen; simp, fun _ => ⟨_, 0, rfl, fun i x hx => ?_⟩⟩
  rcases i with _ | i
  · cases hx; exact ⟨h.c 0 rfl, h.c 1 rfl⟩
  · cases hx
set_option maxRecDepth 100000 in
set_option maxHeartbeats 4000000 in
theorem guest_any (w : World) : Calls Try.prog 4 #[] w fun e w' => e = .returned (.bool true) ∧ Below w.heap.size w w' := by
  have YNR := Lib.hid g_nr
  have YCK := Lib.hid g_ck
  have YBD := Lib.hid g_bd
  have YB := Lib.hid (show tgN gA ⟨4, 100⟩ = gB from rfl)
  have YT := Lib.hid (show tk (tg0 9 5) [⟨1, 1⟩] ([⟨1, 1⟩] : List Cv).length = gA from rfl)
  obtain ⟨A, hA0⟩ : ∃ A, gA = A := ⟨_, rfl⟩
  obtain ⟨B, hB0⟩ : ∃ B, gB = B := ⟨_, rfl⟩
  rw [hA0] at YNR YCK YBD YB YT
  rw [hB0] at YCK YB
  clear hA0 hB0
  have HB0 := Lib.hid (Below.refl w.heap.size w)
  go_enter Try.func4, Try.ntmps4
  go_wp2_with fail
  have HB1 : Hid (Below w.heap.size w (w.alloc (.cells #[.int .i64 1, .int .i64 1] 24))) := HB0.out.alloc HB0.out.size _
  clear HB0
  refine (minted_any 9 5 _ [⟨1, 1⟩] _ (cv_one w 1 1 w.heap.size rfl)).mono ?_
  rintro e u1 ⟨bv, vr, rfl, b, rfl, ⟨i1, t1, sl, m, rfl, hs, -, hq⟩, b1⟩
  obtain ⟨rfl, q1, q2, q3⟩ := hq g_md
  rw [YT.out] at q2
  subst q1 q2 q3
  clear hq
  have HS := Lib.hid hs
  obtain ⟨sa, sc, hsv, -⟩ := hs
  have hsv : sl = .slice sa 1 sc := hsv
  subst hsv
  have HB2 := Lib.hid (keep2 b1 HB1.out)
  clear HB1 b1
  replace HS := Lib.hid (HS.out.step (al u1 (.cells #[.int .i64 5, .slice sa 1 sc, .int .i64 t1] 30)))
  have KC_3 := Lib.hid (Cs.new u1 (u1.heap.size) #[.int .i64 5, .slice sa 1 sc, .int .i64 t1] 30 (by simp))
  have HB4 : Hid (Below w.heap.size w (u1.alloc (.cells #[.int .i64 5, .slice sa 1 sc, .int .i64 t1] 30))) := HB2.out.alloc HB2.out.size _
  clear HB2
  have xC0 : (u1.alloc (.cells #[.int .i64 5, .slice sa 1 sc, .int .i64 t1] 30)).cell? ⟨u1.heap.size, 0, none⟩ = some (.int .i64 5) := KC_3.out.c 0 rfl
  have xC1 : (u1.alloc (.cells #[.int .i64 5, .slice sa 1 sc, .int .i64 t1] 30)).cell? ⟨u1.heap.size, 1, none⟩ = some (.slice sa 1 sc) := KC_3.out.c 1 rfl
  have xC2 : (u1.alloc (.cells #[.int .i64 5, .slice sa 1 sc, .int .i64 t1] 30)).cell? ⟨u1.heap.size, 2, none⟩ = some (.int .i64 t1) := KC_3.out.c 2 rfl
  have zC : u1.heap.size < (u1.alloc (.cells #[.int .i64 5, .slice sa 1 sc, .int .i64 t1] 30)).heap.size := KC_3.out.2.2
  have z2C : u1.heap.size < (u1.alloc (.cells #[.int .i64 5, .slice sa 1 sc, .int .i64 t1] 30)).heap.size + 1 := by omega
  go_wp2_with fail
  refine (narrow_any 5 t1 4 100 _ [⟨1, 1⟩] _ HS.out).mono ?_
  rintro e u21 ⟨vr, rfl, b21, hp1, -⟩
  obtain ⟨su, rfl, hs⟩ := hp1 YNR.out
  clear hp1
  rw [YNR.out, YB.out]
  have HD := Lib.hid hs
  obtain ⟨da, dc, hsv, -⟩ := hs
  have hsv : su = .slice da 2 dc := hsv
  subst hsv
  replace HD := Lib.hid (show CvsAt u21 (.slice da 2 dc) [⟨1, 1⟩, ⟨4, 100⟩] from HD.out)
  replace HS := Lib.hid (HS.out.step b21)
  clear xC0 xC1 xC2 zC z2C
  have KC_5 := Lib.hid (KC_3.out.step b21)
  clear KC_3
  have HB6 := Lib.hid (keep2 b21 HB4.out)
  clear HB4 b21
  replace HS := Lib.hid (HS.out.step (al u21 (.cells #[.int .i64 5, .slice da 2 dc, .int .i64 B] 30)))
  replace HD := Lib.hid (HD.out.step (al u21 (.cells #[.int .i64 5, .slice da 2 dc, .int .i64 B] 30)))
  have KC_7 := Lib.hid (KC_5.out.alloc (.cells #[.int .i64 5, .slice da 2 dc, .int .i64 B] 30))
  clear KC_5
  have KD_8 := Lib.hid (Cs.new u21 (u21.heap.size) #[.int .i64 5, .slice da 2 dc, .int .i64 B] 30 (by simp))
  have HB9 : Hid (Below w.heap.size w (u21.alloc (.cells #[.int .i64 5, .slice da 2 dc, .int .i64 B] 30))) := HB6.out.alloc HB6.out.size _
  clear HB6
  have xC0 : (u21.alloc (.cells #[.int .i64 5, .slice da 2 dc, .int .i64 B] 30)).cell? ⟨u1.heap.size, 0, none⟩ = some (.int .i64 5) := KC_7.out.c 0 rfl
  have xC1 : (u21.alloc (.cells #[.int .i64 5, .slice da 2 dc, .int .i64 B] 30)).cell? ⟨u1.heap.size, 1, none⟩ = some (.slice sa 1 sc) := KC_7.out.c 1 rfl
  have xC2 : (u21.alloc (.cells #[.int .i64 5, .slice da 2 dc, .int .i64 B] 30)).cell? ⟨u1.heap.size, 2, none⟩ = some (.int .i64 t1) := KC_7.out.c 2 rfl
  have zC : u1.heap.size < (u21.alloc (.cells #[.int .i64 5, .slice da 2 dc, .int .i64 B] 30)).heap.size := KC_7.out.2.2
  have z2C : u1.heap.size < (u21.alloc (.cells #[.int .i64 5, .slice da 2 dc, .int .i64 B] 30)).heap.size + 1 := by omega
  go_wp2_with fail
  replace HS := Lib.hid (HS.out.step (al (u21.alloc (.cells #[.int .i64 5, .slice da 2 dc, .int .i64 B] 30)) (.cells #[.int .i64 t1] 3)))
  replace HD := Lib.hid (HD.out.step (al (u21.alloc (.cells #[.int .i64 5, .slice da 2 dc, .int .i64 B] 30)) (.cells #[.int .i64 t1] 3)))
  have KC_10 := Lib.hid (KC_7.out.alloc (.cells #[.int .i64 t1] 3))
  clear KC_7
  have KD_11 := Lib.hid (KD_8.out.alloc (.cells #[.int .i64 t1] 3))
  clear KD_8
  have HB12 : Hid (Below w.heap.size w ((u21.alloc (.cells #[.int .i64 5, .slice da 2 dc, .int .i64 B] 30)).alloc (.cells #[.int .i64 t1] 3))) := HB9.out.alloc HB9.out.size _
  clear HB9
  refine (revoked_any _ [t1] _ (tg_one (u21.alloc (.cells #[.int .i64 5, .slice da 2 dc, .int .i64 B] 30)) t1 (u21.heap.size + 1) (by simp)) (by simp)).mono ?_
  rintro e u22 ⟨b, uv, L, rfl, ⟨hl, h1, h2⟩, b22⟩
  obtain rfl : b = true := h2 (by intro z hz; simp at hz; subst hz; exact YBD.out)
  obtain rfl := so_one (h1 rfl)
  clear h1 h2
  have HR := Lib.hid hl
  obtain ⟨⟨ra, rc, hrv, -⟩, -⟩ := hl
  have hrv : uv = .slice ra 1 rc := hrv
  subst hrv
  replace HS := Lib.hid (HS.out.step b22)
  replace HD := Lib.hid (HD.out.step b22)
  clear xC0 xC1 xC2 zC z2C
  have KC_13 := Lib.hid (KC_10.out.step b22)
  clear KC_10
  have KD_14 := Lib.hid (KD_11.out.step b22)
  clear KD_11
  have HB15 := Lib.hid (keep2 b22 HB12.out)
  clear HB12 b22
  replace HS := Lib.hid (HS.out.step (al u22 (.cells #[.slice ra 1 rc] 34)))
  replace HD := Lib.hid (HD.out.step (al u22 (.cells #[.slice ra 1 rc] 34)))
  replace HR := Lib.hid (HR.out.step (al u22 (.cells #[.slice ra 1 rc] 34)))
  have KC_16 := Lib.hid (KC_13.out.alloc (.cells #[.slice ra 1 rc] 34))
  clear KC_13
  have KD_17 := Lib.hid (KD_14.out.alloc (.cells #[.slice ra 1 rc] 34))
  clear KD_14
  have KR_18 := Lib.hid (Cs.new u22 (u22.heap.size) #[.slice ra 1 rc] 34 (by simp))
  have HB19 : Hid (Below w.heap.size w (u22.alloc (.cells #[.slice ra 1 rc] 34))) := HB15.out.alloc HB15.out.size _
  clear HB15
  replace HS := Lib.hid (HS.out.step (al (u22.alloc (.cells #[.slice ra 1 rc] 34)) (.cells #[.int .i64 1, .int .i64 0, .int .i64 0, .int .i64 50] 26)))
  replace HD := Lib.hid (HD.out.step (al (u22.alloc (.cells #[.slice ra 1 rc] 34)) (.cells #[.int .i64 1, .int .i64 0, .int .i64 0, .int .i64 50] 26)))
  replace HR := Lib.hid (HR.out.step (al (u22.alloc (.cells #[.slice ra 1 rc] 34)) (.cells #[.int .i64 1, .int .i64 0, .int .i64 0, .int .i64 50] 26)))
  have KC_20 := Lib.hid (KC_16.out.alloc (.cells #[.int .i64 1, .int .i64 0, .int .i64 0, .int .i64 50] 26))
  clear KC_16
  have KD_21 := Lib.hid (KD_17.out.alloc (.cells #[.int .i64 1, .int .i64 0, .int .i64 0, .int .i64 50] 26))
  clear KD_17
  have KR_22 := Lib.hid (KR_18.out.alloc (.cells #[.int .i64 1, .int .i64 0, .int .i64 0, .int .i64 50] 26))
  clear KR_18
  have KK_23 := Lib.hid (Cs.new (u22.alloc (.cells #[.slice ra 1 rc] 34)) (u22.heap.size + 1) #[.int .i64 1, .int .i64 0, .int .i64 0, .int .i64 50] 26 (by simp))
  have HB24 : Hid (Below w.heap.size w ((u22.alloc (.cells #[.slice ra 1 rc] 34)).alloc (.cells #[.int .i64 1, .int .i64 0, .int .i64 0, .int .i64 50] 26))) := HB19.out.alloc HB19.out.size _
  clear HB19
  have xD0 : ((u22.alloc (.cells #[.slice ra 1 rc] 34)).alloc (.cells #[.int .i64 1, .int .i64 0, .int .i64 0, .int .i64 50] 26)).cell? ⟨u21.heap.size, 0, none⟩ = some (.int .i64 5) := KD_21.out.c 0 rfl
  have xD1 : ((u22.alloc (.cells #[.slice ra 1 rc] 34)).alloc (.cells #[.int .i64 1, .int .i64 0, .int .i64 0, .int .i64 50] 26)).cell? ⟨u21.heap.size, 1, none⟩ = some (.slice da 2 dc) := KD_21.out.c 1 rfl
  have xD2 : ((u22.alloc (.cells #[.slice ra 1 rc] 34)).alloc (.cells #[.int .i64 1, .int .i64 0, .int .i64 0, .int .i64 50] 26)).cell? ⟨u21.heap.size, 2, none⟩ = some (.int .i64 B) := KD_21.out.c 2 rfl
  have zD : u21.heap.size < ((u22.alloc (.cells #[.slice ra 1 rc] 34)).alloc (.cells #[.int .i64 1, .int .i64 0, .int .i64 0, .int .i64 50] 26)).heap.size := KD_21.out.2.2
  have z2D : u21.heap.size < ((u22.alloc (.cells #[.slice ra 1 rc] 34)).alloc (.cells #[.int .i64 1, .int .i64 0, .int .i64 0, .int .i64 50] 26)).heap.size + 1 := by omega
  have xK0 : ((u22.alloc (.cells #[.slice ra 1 rc] 34)).alloc (.cells #[.int .i64 1, .int .i64 0, .int .i64 0, .int .i64 50] 26)).cell? ⟨u22.heap.size + 1, 0, none⟩ = some (.int .i64 1) := KK_23.out.c 0 rfl
  have xK1 : ((u22.alloc (.cells #[.slice ra 1 rc] 34)).alloc (.cells #[.int .i64 1, .int .i64 0, .int .i64 0, .int .i64 50] 26)).cell? ⟨u22.heap.size + 1, 1, none⟩ = some (.int .i64 0) := KK_23.out.c 1 rfl
  have xK2 : ((u22.alloc (.cells #[.slice ra 1 rc] 34)).alloc (.cells #[.int .i64 1, .int .i64 0, .int .i64 0, .int .i64 50] 26)).cell? ⟨u22.heap.size + 1, 2, none⟩ = some (.int .i64 0) := KK_23.out.c 2 rfl
  have xK3 : ((u22.alloc (.cells #[.slice ra 1 rc] 34)).alloc (.cells #[.int .i64 1, .int .i64 0, .int .i64 0, .int .i64 50] 26)).cell? ⟨u22.heap.size + 1, 3, none⟩ = some (.int .i64 50) := KK_23.out.c 3 rfl
  have zK : u22.heap.size + 1 < ((u22.alloc (.cells #[.slice ra 1 rc] 34)).alloc (.cells #[.int .i64 1, .int .i64 0, .int .i64 0, .int .i64 50] 26)).heap.size := KK_23.out.2.2
  have z2K : u22.heap.size + 1 < ((u22.alloc (.cells #[.slice ra 1 rc] 34)).alloc (.cells #[.int .i64 1, .int .i64 0, .int .i64 0, .int .i64 50] 26)).heap.size + 1 := by omega
  go_wp2_with fail
  refine (chk_any 9 5 B 1 0 0 50 0 _ _ [] [⟨1, 1⟩, ⟨4, 100⟩] _ HD.out (ints_nil _)).mono ?_
  rintro e v1 ⟨rfl, c1⟩
  rw [show ckR 9 [] 5 B [⟨1, 1⟩, ⟨4, 100⟩] 1 0 0 50 0 = _ from YCK.out.1]
  replace HS := Lib.hid (HS.out.step c1)
  replace HD := Lib.hid (HD.out.step c1)
  replace HR := Lib.hid (HR.out.step c1)
  clear xD0 xD1 xD2 zD z2D xK0 xK1 xK2 xK3 zK z2K
  have KC_25 := Lib.hid (KC_20.out.step c1)
  clear KC_20
  have KD_26 := Lib.hid (KD_21.out.step c1)
  clear KD_21
  have KR_27 := Lib.hid (KR_22.out.step c1)
  clear KR_22
  have KK_28 := Lib.hid (KK_23.out.step c1)
  clear KK_23
  have HB29 := Lib.hid (keep2 c1 HB24.out)
  clear HB24 c1
  have xC0 : v1.cell? ⟨u1.heap.size, 0, none⟩ = some (.int .i64 5) := KC_25.out.c 0 rfl
  have xC1 : v1.cell? ⟨u1.heap.size, 1, none⟩ = some (.slice sa 1 sc) := KC_25.out.c 1 rfl
  have xC2 : v1.cell? ⟨u1.heap.size, 2, none⟩ = some (.int .i64 t1) := KC_25.out.c 2 rfl
  have zC : u1.heap.size < v1.heap.size := KC_25.out.2.2
  have z2C : u1.heap.size < v1.heap.size + 1 := by omega
  have xR0 : v1.cell? ⟨u22.heap.size, 0, none⟩ = some (.slice ra 1 rc) := KR_27.out.c 0 rfl
  have zR : u22.heap.size < v1.heap.size := KR_27.out.2.2
  have z2R : u22.heap.size < v1.heap.size + 1 := by omega
  have xK0 : v1.cell? ⟨u22.heap.size + 1, 0, none⟩ = some (.int .i64 1) := KK_28.out.c 0 rfl
  have xK1 : v1.cell? ⟨u22.heap.size + 1, 1, none⟩ = some (.int .i64 0) := KK_28.out.c 1 rfl
  have xK2 : v1.cell? ⟨u22.heap.size + 1, 2, none⟩ = some (.int .i64 0) := KK_28.out.c 2 rfl
  have xK3 : v1.cell? ⟨u22.heap.size + 1, 3, none⟩ = some (.int .i64 50) := KK_28.out.c 3 rfl
  have zK : u22.heap.size + 1 < v1.heap.size := KK_28.out.2.2
  have z2K : u22.heap.size + 1 < v1.heap.size + 1 := by omega
  go_wp2_with fail
  refine (chk_any 9 5 t1 1 0 0 50 0 _ _ [t1] [⟨1, 1⟩] _ HS.out HR.out.1).mono ?_
  rintro e v2 ⟨rfl, c2⟩
  rw [show ckR 9 [t1] 5 t1 [⟨1, 1⟩] 1 0 0 50 0 = _ from YCK.out.2.1]
  replace HS := Lib.hid (HS.out.step c2)
  replace HD := Lib.hid (HD.out.step c2)
  replace HR := Lib.hid (HR.out.step c2)
  clear xC0 xC1 xC2 zC z2C xR0 zR z2R xK0 xK1 xK2 xK3 zK z2K
  have KC_30 := Lib.hid (KC_25.out.step c2)
  clear KC_25
  have KD_31 := Lib.hid (KD_26.out.step c2)
  clear KD_26
  have KR_32 := Lib.hid (KR_27.out.step c2)
  clear KR_27
  have KK_33 := Lib.hid (KK_28.out.step c2)
  clear KK_28
  have HB34 := Lib.hid (keep2 c2 HB29.out)
  clear HB29 c2
  have xD0 : v2.cell? ⟨u21.heap.size, 0, none⟩ = some (.int .i64 5) := KD_31.out.c 0 rfl
  have xD1 : v2.cell? ⟨u21.heap.size, 1, none⟩ = some (.slice da 2 dc) := KD_31.out.c 1 rfl
  have xD2 : v2.cell? ⟨u21.heap.size, 2, none⟩ = some (.int .i64 B) := KD_31.out.c 2 rfl
  have zD : u21.heap.size < v2.heap.size := KD_31.out.2.2
  have z2D : u21.heap.size < v2.heap.size + 1 := by omega
  have xR0 : v2.cell? ⟨u22.heap.size, 0, none⟩ = some (.slice ra 1 rc) := KR_32.out.c 0 rfl
  have zR : u22.heap.size < v2.heap.size := KR_32.out.2.2
  have z2R : u22.heap.size < v2.heap.size + 1 := by omega
  have xK0 : v2.cell? ⟨u22.heap.size + 1, 0, none⟩ = some (.int .i64 1) := KK_33.out.c 0 rfl
  have xK1 : v2.cell? ⟨u22.heap.size + 1, 1, none⟩ = some (.int .i64 0) := KK_33.out.c 1 rfl
  have xK2 : v2.cell? ⟨u22.heap.size + 1, 2, none⟩ = some (.int .i64 0) := KK_33.out.c 2 rfl
  have xK3 : v2.cell? ⟨u22.heap.size + 1, 3, none⟩ = some (.int .i64 50) := KK_33.out.c 3 rfl
  have zK : u22.heap.size + 1 < v2.heap.size := KK_33.out.2.2
  have z2K : u22.heap.size + 1 < v2.heap.size + 1 := by omega
  go_wp2_with fail
  refine (chk_any 9 5 B 1 0 0 50 0 _ _ [t1] [⟨1, 1⟩, ⟨4, 100⟩] _ HD.out HR.out.1).mono ?_
  rintro e v3 ⟨rfl, c3⟩
  rw [show ckR 9 [t1] 5 B [⟨1, 1⟩, ⟨4, 100⟩] 1 0 0 50 0 = _ from YCK.out.2.2]
  replace HS := Lib.hid (HS.out.step c3)
  replace HD := Lib.hid (HD.out.step c3)
  replace HR := Lib.hid (HR.out.step c3)
  clear xD0 xD1 xD2 zD z2D xR0 zR z2R xK0 xK1 xK2 xK3 zK z2K
  have KC_35 := Lib.hid (KC_30.out.step c3)
  clear KC_30
  have KD_36 := Lib.hid (KD_31.out.step c3)
  clear KD_31
  have KR_37 := Lib.hid (KR_32.out.step c3)
  clear KR_32
  have KK_38 := Lib.hid (KK_33.out.step c3)
  clear KK_33
  have HB39 := Lib.hid (keep2 c3 HB34.out)
  clear HB34 c3
  go_wp2
  go_ret
  exact ⟨rfl, HB39.out⟩
end Go.Proofs.Ytoaleijfpocdjaa
