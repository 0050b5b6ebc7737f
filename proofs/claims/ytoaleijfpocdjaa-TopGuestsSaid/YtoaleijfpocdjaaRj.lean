/- Sets of tags: 'Check'. -/
import Derived.Test.YtoaleijfpocdjaaRi
import Derived.Test.YtoaleijfpocdjaaKl
namespace Go.Proofs.Ytoaleijfpocdjaa
open Go.RowKit

/-- What 'Check' gives. -/
def ckR (key : Int) (m : List Int) (id tag : Int) (l : List Cv) (r v x t u : Int) : Int := if stB m then (if ckV key id tag l r v x t u = 1 then 1 else if (chB key id tag l).any (inB m) then 21 else ckV key id tag l r v x t u) else 1
theorem tk_bd (key id : Int) (l : List Cv) (k : Nat) : 0 ≤ tk (tg0 key id) l k ∧ tk (tg0 key id) l k < 2147483647 := by
  cases k with
  | zero => exact Dg_bd _
  | succ k => exact Dg_bd _
theorem ch_bd (key id tag : Int) (l : List Cv) : ∀ z ∈ chB key id tag l, 0 ≤ z ∧ z ≤ 2147483646 := by
  intro z hz
  unfold chB at hz
  split at hz
  · unfold chL at hz
    rw [List.mem_map] at hz
    obtain ⟨k, -, rfl⟩ := hz
    have := tk_bd key id l k
    omega
  · cases hz
set_option maxRecDepth 100000 in
set_option maxHeartbeats 4000000 in
theorem chk_bad1 (key id tag r v x t u : Int) (vr sl : Value) (m : List Int) (l : List Cv) (w : World) (h : CvsAt w sl l) (hr : IntsAt w vr m) (h1 : stB m = false) : Calls Try.prog 13 #[.int .i64 key, .agg #[vr], .agg #[.int .i64 id, sl, .int .i64 tag], .agg #[.int .i64 r, .int .i64 v, .int .i64 x, .int .i64 t], .int .i64 u] w fun e w' => e = .returned (.int .i64 1) ∧ Below w.heap.size w w' := by
  have H := Lib.hid h
  have HR := Lib.hid hr
  obtain ⟨a, cap, rfl, -, -, -⟩ := h
  obtain ⟨ra, rc, rfl, -, -⟩ := hr
  have S1 := Lib.hid h1
  clear h1
  have HB0 := Lib.hid (Below.refl w.heap.size w)
  go_enter Try.func13, Try.ntmps13
  have KS_1 := Lib.hid (Cs.new w (w.heap.size) #[.slice ra m.length rc] 34 (by simp))
  have HB2 : Hid (Below w.heap.size w (w.alloc (.cells #[.slice ra m.length rc] 34))) := HB0.out.alloc HB0.out.size _
  clear HB0
  have KS_3 := Lib.hid (KS_1.out.alloc (.cells #[.int .i64 id, .slice a l.length cap, .int .i64 tag] 30))
  clear KS_1
  have KA_4 := Lib.hid (Cs.new (w.alloc (.cells #[.slice ra m.length rc] 34)) (w.heap.size + 1) #[.int .i64 id, .slice a l.length cap, .int .i64 tag] 30 (by simp))
  have HB5 : Hid (Below w.heap.size w ((w.alloc (.cells #[.slice ra m.length rc] 34)).alloc (.cells #[.int .i64 id, .slice a l.length cap, .int .i64 tag] 30))) := HB2.out.alloc HB2.out.size _
  clear HB2
  have KS_6 := Lib.hid (KS_3.out.alloc (.cells #[.int .i64 r, .int .i64 v, .int .i64 x, .int .i64 t] 26))
  clear KS_3
  have KA_7 := Lib.hid (KA_4.out.alloc (.cells #[.int .i64 r, .int .i64 v, .int .i64 x, .int .i64 t] 26))
  clear KA_4
  have KK_8 := Lib.hid (Cs.new ((w.alloc (.cells #[.slice ra m.length rc] 34)).alloc (.cells #[.int .i64 id, .slice a l.length cap, .int .i64 tag] 30)) (w.heap.size + 1 + 1) #[.int .i64 r, .int .i64 v, .int .i64 x, .int .i64 t] 26 (by simp))
  have HB9 : Hid (Below w.heap.size w (((w.alloc (.cells #[.slice ra m.length rc] 34)).alloc (.cells #[.int .i64 id, .slice a l.length cap, .int .i64 tag] 30)).alloc (.cells #[.int .i64 r, .int .i64 v, .int .i64 x, .int .i64 t] 26))) := HB5.out.alloc HB5.out.size _
  clear HB5
  have xA0 : (((w.alloc (.cells #[.slice ra m.length rc] 34)).alloc (.cells #[.int .i64 id, .slice a l.length cap, .int .i64 tag] 30)).alloc (.cells #[.int .i64 r, .int .i64 v, .int .i64 x, .int .i64 t] 26)).cell? ⟨w.heap.size + 1, 0, none⟩ = some (.int .i64 id) := KA_7.out.c 0 rfl
  have xA1 : (((w.alloc (.cells #[.slice ra m.length rc] 34)).alloc (.cells #[.int .i64 id, .slice a l.length cap, .int .i64 tag] 30)).alloc (.cells #[.int .i64 r, .int .i64 v, .int .i64 x, .int .i64 t] 26)).cell? ⟨w.heap.size + 1, 1, none⟩ = some (.slice a l.length cap) := KA_7.out.c 1 rfl
  have xA2 : (((w.alloc (.cells #[.slice ra m.length rc] 34)).alloc (.cells #[.int .i64 id, .slice a l.length cap, .int .i64 tag] 30)).alloc (.cells #[.int .i64 r, .int .i64 v, .int .i64 x, .int .i64 t] 26)).cell? ⟨w.heap.size + 1, 2, none⟩ = some (.int .i64 tag) := KA_7.out.c 2 rfl
  have zA : w.heap.size + 1 < (((w.alloc (.cells #[.slice ra m.length rc] 34)).alloc (.cells #[.int .i64 id, .slice a l.length cap, .int .i64 tag] 30)).alloc (.cells #[.int .i64 r, .int .i64 v, .int .i64 x, .int .i64 t] 26)).heap.size := KA_7.out.2.2
  have z2A : w.heap.size + 1 < (((w.alloc (.cells #[.slice ra m.length rc] 34)).alloc (.cells #[.int .i64 id, .slice a l.length cap, .int .i64 tag] 30)).alloc (.cells #[.int .i64 r, .int .i64 v, .int .i64 x, .int .i64 t] 26)).heap.size + 1 := by omega
  have xK0 : (((w.alloc (.cells #[.slice ra m.length rc] 34)).alloc (.cells #[.int .i64 id, .slice a l.length cap, .int .i64 tag] 30)).alloc (.cells #[.int .i64 r, .int .i64 v, .int .i64 x, .int .i64 t] 26)).cell? ⟨w.heap.size + 1 + 1, 0, none⟩ = some (.int .i64 r) := KK_8.out.c 0 rfl
  have xK1 : (((w.alloc (.cells #[.slice ra m.length rc] 34)).alloc (.cells #[.int .i64 id, .slice a l.length cap, .int .i64 tag] 30)).alloc (.cells #[.int .i64 r, .int .i64 v, .int .i64 x, .int .i64 t] 26)).cell? ⟨w.heap.size + 1 + 1, 1, none⟩ = some (.int .i64 v) := KK_8.out.c 1 rfl
  have xK2 : (((w.alloc (.cells #[.slice ra m.length rc] 34)).alloc (.cells #[.int .i64 id, .slice a l.length cap, .int .i64 tag] 30)).alloc (.cells #[.int .i64 r, .int .i64 v, .int .i64 x, .int .i64 t] 26)).cell? ⟨w.heap.size + 1 + 1, 2, none⟩ = some (.int .i64 x) := KK_8.out.c 2 rfl
  have xK3 : (((w.alloc (.cells #[.slice ra m.length rc] 34)).alloc (.cells #[.int .i64 id, .slice a l.length cap, .int .i64 tag] 30)).alloc (.cells #[.int .i64 r, .int .i64 v, .int .i64 x, .int .i64 t] 26)).cell? ⟨w.heap.size + 1 + 1, 3, none⟩ = some (.int .i64 t) := KK_8.out.c 3 rfl
  have zK : w.heap.size + 1 + 1 < (((w.alloc (.cells #[.slice ra m.length rc] 34)).alloc (.cells #[.int .i64 id, .slice a l.length cap, .int .i64 tag] 30)).alloc (.cells #[.int .i64 r, .int .i64 v, .int .i64 x, .int .i64 t] 26)).heap.size := KK_8.out.2.2
  have z2K : w.heap.size + 1 + 1 < (((w.alloc (.cells #[.slice ra m.length rc] 34)).alloc (.cells #[.int .i64 id, .slice a l.length cap, .int .i64 tag] 30)).alloc (.cells #[.int .i64 r, .int .i64 v, .int .i64 x, .int .i64 t] 26)).heap.size + 1 := by omega
  go_wp2_with fail
  refine (check_any key id tag r v x t u _ l _ (H.out.step HB9.out)).mono ?_
  rintro e u1 ⟨rfl, b1⟩
  clear xA0 xA1 xA2 zA z2A xK0 xK1 xK2 xK3 zK z2K
  have KS_10 := Lib.hid (KS_6.out.step b1)
  clear KS_6
  have KA_11 := Lib.hid (KA_7.out.step b1)
  clear KA_7
  have KK_12 := Lib.hid (KK_8.out.step b1)
  clear KK_8
  have HB13 := Lib.hid (keep2 b1 HB9.out)
  clear HB9 b1
  obtain ⟨er, her⟩ : ∃ er, ckV key id tag l r v x t u = er := ⟨_, rfl⟩
  rw [her]
  replace her := Lib.hid her
  have xS0 : u1.cell? ⟨w.heap.size, 0, none⟩ = some (.slice ra m.length rc) := KS_10.out.c 0 rfl
  have zS : w.heap.size < u1.heap.size := KS_10.out.2.2
  have z2S : w.heap.size < u1.heap.size + 1 := by omega
  go_wp2_with fail
  refine (isSet_any _ m _ (HR.out.step HB13.out)).mono ?_
  rintro e u2 ⟨rfl, b2⟩
  clear xS0 zS z2S
  have KS_14 := Lib.hid (KS_10.out.step b2)
  clear KS_10
  have KA_15 := Lib.hid (KA_11.out.step b2)
  clear KA_11
  have KK_16 := Lib.hid (KK_12.out.step b2)
  clear KK_12
  have HB17 := Lib.hid (keep2 b2 HB13.out)
  clear HB13 b2
  rw [S1.out]
  go_wp2
  go_ret
  exact ⟨rfl, HB17.out⟩
set_option maxRecDepth 100000 in
set_option maxHeartbeats 4000000 in
theorem chk_bad2 (key id tag r v x t u : Int) (vr sl : Value) (m : List Int) (l : List Cv) (w : World) (h : CvsAt w sl l) (hr : IntsAt w vr m) (h1 : stB m = true) (h2 : ckV key id tag l r v x t u = 1) : Calls Try.prog 13 #[.int .i64 key, .agg #[vr], .agg #[.int .i64 id, sl, .int .i64 tag], .agg #[.int .i64 r, .int .i64 v, .int .i64 x, .int .i64 t], .int .i64 u] w fun e w' => e = .returned (.int .i64 1) ∧ Below w.heap.size w w' := by
  have H := Lib.hid h
  have HR := Lib.hid hr
  obtain ⟨a, cap, rfl, -, -, -⟩ := h
  obtain ⟨ra, rc, rfl, -, -⟩ := hr
  have S1 := Lib.hid h1
  clear h1
  have S2 := Lib.hid h2
  clear h2
  have HB0 := Lib.hid (Below.refl w.heap.size w)
  go_enter Try.func13, Try.ntmps13
  have KS_1 := Lib.hid (Cs.new w (w.heap.size) #[.slice ra m.length rc] 34 (by simp))
  have HB2 : Hid (Below w.heap.size w (w.alloc (.cells #[.slice ra m.length rc] 34))) := HB0.out.alloc HB0.out.size _
  clear HB0
  have KS_3 := Lib.hid (KS_1.out.alloc (.cells #[.int .i64 id, .slice a l.length cap, .int .i64 tag] 30))
  clear KS_1
  have KA_4 := Lib.hid (Cs.new (w.alloc (.cells #[.slice ra m.length rc] 34)) (w.heap.size + 1) #[.int .i64 id, .slice a l.length cap, .int .i64 tag] 30 (by simp))
  have HB5 : Hid (Below w.heap.size w ((w.alloc (.cells #[.slice ra m.length rc] 34)).alloc (.cells #[.int .i64 id, .slice a l.length cap, .int .i64 tag] 30))) := HB2.out.alloc HB2.out.size _
  clear HB2
  have KS_6 := Lib.hid (KS_3.out.alloc (.cells #[.int .i64 r, .int .i64 v, .int .i64 x, .int .i64 t] 26))
  clear KS_3
  have KA_7 := Lib.hid (KA_4.out.alloc (.cells #[.int .i64 r, .int .i64 v, .int .i64 x, .int .i64 t] 26))
  clear KA_4
  have KK_8 := Lib.hid (Cs.new ((w.alloc (.cells #[.slice ra m.length rc] 34)).alloc (.cells #[.int .i64 id, .slice a l.length cap, .int .i64 tag] 30)) (w.heap.size + 1 + 1) #[.int .i64 r, .int .i64 v, .int .i64 x, .int .i64 t] 26 (by simp))
  have HB9 : Hid (Below w.heap.size w (((w.alloc (.cells #[.slice ra m.length rc] 34)).alloc (.cells #[.int .i64 id, .slice a l.length cap, .int .i64 tag] 30)).alloc (.cells #[.int .i64 r, .int .i64 v, .int .i64 x, .int .i64 t] 26))) := HB5.out.alloc HB5.out.size _
  clear HB5
  have xA0 : (((w.alloc (.cells #[.slice ra m.length rc] 34)).alloc (.cells #[.int .i64 id, .slice a l.length cap, .int .i64 tag] 30)).alloc (.cells #[.int .i64 r, .int .i64 v, .int .i64 x, .int .i64 t] 26)).cell? ⟨w.heap.size + 1, 0, none⟩ = some (.int .i64 id) := KA_7.out.c 0 rfl
  have xA1 : (((w.alloc (.cells #[.slice ra m.length rc] 34)).alloc (.cells #[.int .i64 id, .slice a l.length cap, .int .i64 tag] 30)).alloc (.cells #[.int .i64 r, .int .i64 v, .int .i64 x, .int .i64 t] 26)).cell? ⟨w.heap.size + 1, 1, none⟩ = some (.slice a l.length cap) := KA_7.out.c 1 rfl
  have xA2 : (((w.alloc (.cells #[.slice ra m.length rc] 34)).alloc (.cells #[.int .i64 id, .slice a l.length cap, .int .i64 tag] 30)).alloc (.cells #[.int .i64 r, .int .i64 v, .int .i64 x, .int .i64 t] 26)).cell? ⟨w.heap.size + 1, 2, none⟩ = some (.int .i64 tag) := KA_7.out.c 2 rfl
  have zA : w.heap.size + 1 < (((w.alloc (.cells #[.slice ra m.length rc] 34)).alloc (.cells #[.int .i64 id, .slice a l.length cap, .int .i64 tag] 30)).alloc (.cells #[.int .i64 r, .int .i64 v, .int .i64 x, .int .i64 t] 26)).heap.size := KA_7.out.2.2
  have z2A : w.heap.size + 1 < (((w.alloc (.cells #[.slice ra m.length rc] 34)).alloc (.cells #[.int .i64 id, .slice a l.length cap, .int .i64 tag] 30)).alloc (.cells #[.int .i64 r, .int .i64 v, .int .i64 x, .int .i64 t] 26)).heap.size + 1 := by omega
  have xK0 : (((w.alloc (.cells #[.slice ra m.length rc] 34)).alloc (.cells #[.int .i64 id, .slice a l.length cap, .int .i64 tag] 30)).alloc (.cells #[.int .i64 r, .int .i64 v, .int .i64 x, .int .i64 t] 26)).cell? ⟨w.heap.size + 1 + 1, 0, none⟩ = some (.int .i64 r) := KK_8.out.c 0 rfl
  have xK1 : (((w.alloc (.cells #[.slice ra m.length rc] 34)).alloc (.cells #[.int .i64 id, .slice a l.length cap, .int .i64 tag] 30)).alloc (.cells #[.int .i64 r, .int .i64 v, .int .i64 x, .int .i64 t] 26)).cell? ⟨w.heap.size + 1 + 1, 1, none⟩ = some (.int .i64 v) := KK_8.out.c 1 rfl
  have xK2 : (((w.alloc (.cells #[.slice ra m.length rc] 34)).alloc (.cells #[.int .i64 id, .slice a l.length cap, .int .i64 tag] 30)).alloc (.cells #[.int .i64 r, .int .i64 v, .int .i64 x, .int .i64 t] 26)).cell? ⟨w.heap.size + 1 + 1, 2, none⟩ = some (.int .i64 x) := KK_8.out.c 2 rfl
  have xK3 : (((w.alloc (.cells #[.slice ra m.length rc] 34)).alloc (.cells #[.int .i64 id, .slice a l.length cap, .int .i64 tag] 30)).alloc (.cells #[.int .i64 r, .int .i64 v, .int .i64 x, .int .i64 t] 26)).cell? ⟨w.heap.size + 1 + 1, 3, none⟩ = some (.int .i64 t) := KK_8.out.c 3 rfl
  have zK : w.heap.size + 1 + 1 < (((w.alloc (.cells #[.slice ra m.length rc] 34)).alloc (.cells #[.int .i64 id, .slice a l.length cap, .int .i64 tag] 30)).alloc (.cells #[.int .i64 r, .int .i64 v, .int .i64 x, .int .i64 t] 26)).heap.size := KK_8.out.2.2
  have z2K : w.heap.size + 1 + 1 < (((w.alloc (.cells #[.slice ra m.length rc] 34)).alloc (.cells #[.int .i64 id, .slice a l.length cap, .int .i64 tag] 30)).alloc (.cells #[.int .i64 r, .int .i64 v, .int .i64 x, .int .i64 t] 26)).heap.size + 1 := by omega
  go_wp2_with fail
  refine (check_any key id tag r v x t u _ l _ (H.out.step HB9.out)).mono ?_
  rintro e u1 ⟨rfl, b1⟩
  clear xA0 xA1 xA2 zA z2A xK0 xK1 xK2 xK3 zK z2K
  have KS_10 := Lib.hid (KS_6.out.step b1)
  clear KS_6
  have KA_11 := Lib.hid (KA_7.out.step b1)
  clear KA_7
  have KK_12 := Lib.hid (KK_8.out.step b1)
  clear KK_8
  have HB13 := Lib.hid (keep2 b1 HB9.out)
  clear HB9 b1
  obtain ⟨er, her⟩ : ∃ er, ckV key id tag l r v x t u = er := ⟨_, rfl⟩
  rw [her]
  replace her := Lib.hid her
  have xS0 : u1.cell? ⟨w.heap.size, 0, none⟩ = some (.slice ra m.length rc) := KS_10.out.c 0 rfl
  have zS : w.heap.size < u1.heap.size := KS_10.out.2.2
  have z2S : w.heap.size < u1.heap.size + 1 := by omega
  go_wp2_with fail
  refine (isSet_any _ m _ (HR.out.step HB13.out)).mono ?_
  rintro e u2 ⟨rfl, b2⟩
  clear xS0 zS z2S
  have KS_14 := Lib.hid (KS_10.out.step b2)
  clear KS_10
  have KA_15 := Lib.hid (KA_11.out.step b2)
  clear KA_11
  have KK_16 := Lib.hid (KK_12.out.step b2)
  clear KK_12
  have HB17 := Lib.hid (keep2 b2 HB13.out)
  clear HB13 b2
  rw [S1.out]
  obtain rfl : er = 1 := her.out.symm.trans S2.out
  go_wp2
  go_ret
  exact ⟨rfl, HB17.out⟩
set_option maxRecDepth 100000 in
set_option maxHeartbeats 4000000 in
theorem chk_main (key id tag r v x t u : Int) (vr sl : Value) (m : List Int) (l : List Cv) (w : World) (h : CvsAt w sl l) (hr : IntsAt w vr m) (h1 : stB m = true) (h2 : ckV key id tag l r v x t u ≠ 1) (z : Int) (hz : (if (chB key id tag l).any (inB m) then 21 else ckV key id tag l r v x t u) = z) : Calls Try.prog 13 #[.int .i64 key, .agg #[vr], .agg #[.int .i64 id, sl, .int .i64 tag], .agg #[.int .i64 r, .int .i64 v, .int .i64 x, .int .i64 t], .int .i64 u] w fun e w' => e = .returned (.int .i64 z) ∧ Below w.heap.size w w' := by
  have H := Lib.hid h
  have HR := Lib.hid hr
  obtain ⟨a, cap, rfl, -, -, -⟩ := h
  obtain ⟨ra, rc, rfl, -, -⟩ := hr
  have HZ := Lib.hid hz
  clear hz
  have S1 := Lib.hid h1
  clear h1
  have S2 := Lib.hid h2
  clear h2
  have HB0 := Lib.hid (Below.refl w.heap.size w)
  go_enter Try.func13, Try.ntmps13
  have KS_1 := Lib.hid (Cs.new w (w.heap.size) #[.slice ra m.length rc] 34 (by simp))
  have HB2 : Hid (Below w.heap.size w (w.alloc (.cells #[.slice ra m.length rc] 34))) := HB0.out.alloc HB0.out.size _
  clear HB0
  have KS_3 := Lib.hid (KS_1.out.alloc (.cells #[.int .i64 id, .slice a l.length cap, .int .i64 tag] 30))
  clear KS_1
  have KA_4 := Lib.hid (Cs.new (w.alloc (.cells #[.slice ra m.length rc] 34)) (w.heap.size + 1) #[.int .i64 id, .slice a l.length cap, .int .i64 tag] 30 (by simp))
  have HB5 : Hid (Below w.heap.size w ((w.alloc (.cells #[.slice ra m.length rc] 34)).alloc (.cells #[.int .i64 id, .slice a l.length cap, .int .i64 tag] 30))) := HB2.out.alloc HB2.out.size _
  clear HB2
  have KS_6 := Lib.hid (KS_3.out.alloc (.cells #[.int .i64 r, .int .i64 v, .int .i64 x, .int .i64 t] 26))
  clear KS_3
  have KA_7 := Lib.hid (KA_4.out.alloc (.cells #[.int .i64 r, .int .i64 v, .int .i64 x, .int .i64 t] 26))
  clear KA_4
  have KK_8 := Lib.hid (Cs.new ((w.alloc (.cells #[.slice ra m.length rc] 34)).alloc (.cells #[.int .i64 id, .slice a l.length cap, .int .i64 tag] 30)) (w.heap.size + 1 + 1) #[.int .i64 r, .int .i64 v, .int .i64 x, .int .i64 t] 26 (by simp))
  have HB9 : Hid (Below w.heap.size w (((w.alloc (.cells #[.slice ra m.length rc] 34)).alloc (.cells #[.int .i64 id, .slice a l.length cap, .int .i64 tag] 30)).alloc (.cells #[.int .i64 r, .int .i64 v, .int .i64 x, .int .i64 t] 26))) := HB5.out.alloc HB5.out.size _
  clear HB5
  have xA0 : (((w.alloc (.cells #[.slice ra m.length rc] 34)).alloc (.cells #[.int .i64 id, .slice a l.length cap, .int .i64 tag] 30)).alloc (.cells #[.int .i64 r, .int .i64 v, .int .i64 x, .int .i64 t] 26)).cell? ⟨w.heap.size + 1, 0, none⟩ = some (.int .i64 id) := KA_7.out.c 0 rfl
  have xA1 : (((w.alloc (.cells #[.slice ra m.length rc] 34)).alloc (.cells #[.int .i64 id, .slice a l.length cap, .int .i64 tag] 30)).alloc (.cells #[.int .i64 r, .int .i64 v, .int .i64 x, .int .i64 t] 26)).cell? ⟨w.heap.size + 1, 1, none⟩ = some (.slice a l.length cap) := KA_7.out.c 1 rfl
  have xA2 : (((w.alloc (.cells #[.slice ra m.length rc] 34)).alloc (.cells #[.int .i64 id, .slice a l.length cap, .int .i64 tag] 30)).alloc (.cells #[.int .i64 r, .int .i64 v, .int .i64 x, .int .i64 t] 26)).cell? ⟨w.heap.size + 1, 2, none⟩ = some (.int .i64 tag) := KA_7.out.c 2 rfl
  have zA : w.heap.size + 1 < (((w.alloc (.cells #[.slice ra m.length rc] 34)).alloc (.cells #[.int .i64 id, .slice a l.length cap, .int .i64 tag] 30)).alloc (.cells #[.int .i64 r, .int .i64 v, .int .i64 x, .int .i64 t] 26)).heap.size := KA_7.out.2.2
  have z2A : w.heap.size + 1 < (((w.alloc (.cells #[.slice ra m.length rc] 34)).alloc (.cells #[.int .i64 id, .slice a l.length cap, .int .i64 tag] 30)).alloc (.cells #[.int .i64 r, .int .i64 v, .int .i64 x, .int .i64 t] 26)).heap.size + 1 := by omega
  have xK0 : (((w.alloc (.cells #[.slice ra m.length rc] 34)).alloc (.cells #[.int .i64 id, .slice a l.length cap, .int .i64 tag] 30)).alloc (.cells #[.int .i64 r, .int .i64 v, .int .i64 x, .int .i64 t] 26)).cell? ⟨w.heap.size + 1 + 1, 0, none⟩ = some (.int .i64 r) := KK_8.out.c 0 rfl
  have xK1 : (((w.alloc (.cells #[.slice ra m.length rc] 34)).alloc (.cells #[.int .i64 id, .slice a l.length cap, .int .i64 tag] 30)).alloc (.cells #[.int .i64 r, .int .i64 v, .int .i64 x, .int .i64 t] 26)).cell? ⟨w.heap.size + 1 + 1, 1, none⟩ = some (.int .i64 v) := KK_8.out.c 1 rfl
  have xK2 : (((w.alloc (.cells #[.slice ra m.length rc] 34)).alloc (.cells #[.int .i64 id, .slice a l.length cap, .int .i64 tag] 30)).alloc (.cells #[.int .i64 r, .int .i64 v, .int .i64 x, .int .i64 t] 26)).cell? ⟨w.heap.size + 1 + 1, 2, none⟩ = some (.int .i64 x) := KK_8.out.c 2 rfl
  have xK3 : (((w.alloc (.cells #[.slice ra m.length rc] 34)).alloc (.cells #[.int .i64 id, .slice a l.length cap, .int .i64 tag] 30)).alloc (.cells #[.int .i64 r, .int .i64 v, .int .i64 x, .int .i64 t] 26)).cell? ⟨w.heap.size + 1 + 1, 3, none⟩ = some (.int .i64 t) := KK_8.out.c 3 rfl
  have zK : w.heap.size + 1 + 1 < (((w.alloc (.cells #[.slice ra m.length rc] 34)).alloc (.cells #[.int .i64 id, .slice a l.length cap, .int .i64 tag] 30)).alloc (.cells #[.int .i64 r, .int .i64 v, .int .i64 x, .int .i64 t] 26)).heap.size := KK_8.out.2.2
  have z2K : w.heap.size + 1 + 1 < (((w.alloc (.cells #[.slice ra m.length rc] 34)).alloc (.cells #[.int .i64 id, .slice a l.length cap, .int .i64 tag] 30)).alloc (.cells #[.int .i64 r, .int .i64 v, .int .i64 x, .int .i64 t] 26)).heap.size + 1 := by omega
  go_wp2_with fail
  refine (check_any key id tag r v x t u _ l _ (H.out.step HB9.out)).mono ?_
  rintro e u1 ⟨rfl, b1⟩
  clear xA0 xA1 xA2 zA z2A xK0 xK1 xK2 xK3 zK z2K
  have KS_10 := Lib.hid (KS_6.out.step b1)
  clear KS_6
  have KA_11 := Lib.hid (KA_7.out.step b1)
  clear KA_7
  have KK_12 := Lib.hid (KK_8.out.step b1)
  clear KK_8
  have HB13 := Lib.hid (keep2 b1 HB9.out)
  clear HB9 b1
  obtain ⟨er, her⟩ : ∃ er, ckV key id tag l r v x t u = er := ⟨_, rfl⟩
  rw [her]
  replace her := Lib.hid her
  have xS0 : u1.cell? ⟨w.heap.size, 0, none⟩ = some (.slice ra m.length rc) := KS_10.out.c 0 rfl
  have zS : w.heap.size < u1.heap.size := KS_10.out.2.2
  have z2S : w.heap.size < u1.heap.size + 1 := by omega
  go_wp2_with fail
  refine (isSet_any _ m _ (HR.out.step HB13.out)).mono ?_
  rintro e u2 ⟨rfl, b2⟩
  clear xS0 zS z2S
  have KS_14 := Lib.hid (KS_10.out.step b2)
  clear KS_10
  have KA_15 := Lib.hid (KA_11.out.step b2)
  clear KA_11
  have KK_16 := Lib.hid (KK_12.out.step b2)
  clear KK_12
  have HB17 := Lib.hid (keep2 b2 HB13.out)
  clear HB13 b2
  rw [S1.out]
  have k0 : er ≠ 1 := fun h => S2.out (her.out.trans h)
  have k1 : (er == 1) = false := by simpa using k0
  have k2 : decide (er = 1) = false := by simpa using k0
  go_wp2_with fail
  obtain ⟨CH, hCH⟩ : ∃ CH, chB key id tag l = CH := ⟨_, rfl⟩
  have HCB := Lib.hid (show ∀ z ∈ CH, 0 ≤ z ∧ z ≤ 2147483646 by rw [← hCH]; exact ch_bd key id tag l)
  replace hCH := Lib.hid hCH
  obtain ⟨ab, hab⟩ : ∃ ab, CH.any (inB m) = ab := ⟨_, rfl⟩
  replace hab := Lib.hid hab
  obtain ⟨lit, hlit⟩ : ∃ lit : (Nat → Value) → Act, lit = fun vs => { tmps := List.toArray (Value.int IntKind.i64 key :: Value.agg #[Value.slice ra m.length rc] :: Value.agg #[Value.int IntKind.i64 id, Value.slice a l.length cap, Value.int IntKind.i64 tag] :: Value.agg #[Value.int IntKind.i64 r, Value.int IntKind.i64 v, Value.int IntKind.i64 x, Value.int IntKind.i64 t] :: Value.int IntKind.i64 u :: undef :: Value.pointer (some { block := w.heap.size, off := 0 }) :: Value.pointer (some { block := w.heap.size + 1, off := 0 }) :: Value.pointer (some { block := w.heap.size + 1 + 1, off := 0 }) :: undef :: Value.int IntKind.i64 0 :: Value.int IntKind.i64 er :: Value.int IntKind.i64 key :: Value.agg #[Value.int IntKind.i64 id, Value.slice a l.length cap, Value.int IntKind.i64 tag] :: Value.agg #[Value.int IntKind.i64 r, Value.int IntKind.i64 v, Value.int IntKind.i64 x, Value.int IntKind.i64 t] :: Value.int IntKind.i64 u :: Value.int IntKind.i64 er :: Value.agg #[Value.slice ra m.length rc] :: Value.bool true :: Value.bool false :: Value.bool false :: Value.int IntKind.i64 er :: Value.bool false :: Value.bool false :: vs 0 :: vs 1 :: vs 2 :: vs 3 :: vs 4 :: vs 5 :: vs 6 :: undef :: []), defers := [] } := ⟨_, rfl⟩
  have HLIT := Lib.hid hlit
  clear hlit
  obtain ⟨val, hval⟩ : ∃ val : List Value, val = [.int .i64 key, .agg #[.int .i64 id, .slice a l.length cap, .int .i64 tag], undef, .agg #[.slice ra m.length rc], .agg #[.slice ra m.length rc, .func (.func 41) #[] #[]], .func (.func 36) #[.agg #[.slice ra m.length rc, .func (.func 41) #[] #[]]] #[], .bool ab] := ⟨_, rfl⟩
  have E0 := Lib.hid (show val.getD 0 undef = .int .i64 key by rw [hval]; rfl)
  have E1 := Lib.hid (show val.getD 1 undef = .agg #[.int .i64 id, .slice a l.length cap, .int .i64 tag] by rw [hval]; rfl)
  have E3 := Lib.hid (show val.getD 3 undef = .agg #[.slice ra m.length rc] by rw [hval]; rfl)
  have E4 := Lib.hid (show val.getD 4 undef = .agg #[.slice ra m.length rc, .func (.func 41) #[] #[]] by rw [hval]; rfl)
  have E5 := Lib.hid (show val.getD 5 undef = .func (.func 36) #[.agg #[.slice ra m.length rc, .func (.func 41) #[] #[]]] #[] by rw [hval]; rfl)
  have E6 := Lib.hid (show val.getD 6 undef = .bool ab by rw [hval]; rfl)
  clear hval
  obtain ⟨G, hG0⟩ : ∃ G : Nat → Value → World → Prop, G = (fun i v w => (i = 2 → ∃ ca cn cc, v = .slice ca cn cc ∧ IntsAt w v CH) ∧ (i ≠ 2 → v = val.getD i undef)) := ⟨_, rfl⟩
  have HG := Lib.hid hG0
  clear hG0
  refine region_inv (RS lit u2 G) (by kernel_rfl) (by decide +kernel) ?_ ?_ ?_
  · exact ⟨fun i => ([undef, undef, undef, undef, undef, undef, undef] : List Value).getD i undef, (by rw [HLIT.out]; rfl), below_drew _ _, fun i h => by cases h⟩
  · refine ⟨?_, ?_, ?_, ?_, ?_, ?_, ?_, trivial⟩
    · intro bf ac wv hfb haf hJ K' hK
      obtain ⟨vs, rfl, hM, j4⟩ := hJ
      replace hK := Lib.hid hK
      replace hM := Lib.hid hM
      rw [HG.out] at j4
      replace j4 := Lib.hid j4
      clear haf hfb
      rw [HLIT.out]
      go_simp
      exact hK.out _ _ (RS.next (wv := wv) (vs := vs) 0 (x := .int .i64 key) (by rw [HLIT.out]; rfl) (by rw [HG.out]; exact j4.out) hM.out (by rw [HG.out]; exact fun _ _ h => h) (by rw [HG.out]; exact ⟨fun h => absurd h (by decide), fun _ => E0.out.symm⟩))
    · intro bf ac wv hfb haf hJ K' hK
      obtain ⟨vs, rfl, hM, j4⟩ := hJ
      replace hK := Lib.hid hK
      replace hM := Lib.hid hM
      rw [HG.out] at j4
      replace j4 := Lib.hid j4
      clear haf hfb
      have K1 := KA_15.out.step hM.out
      have x0 := K1.c 0 rfl
      have x1 := K1.c 1 rfl
      have x2 := K1.c 2 rfl
      have xz := K1.2.2
      clear K1
      rw [HLIT.out]
      go_simp
      exact hK.out _ _ (RS.next (wv := wv) (vs := vs) 1 (x := .agg #[.int .i64 id, .slice a l.length cap, .int .i64 tag]) (by rw [HLIT.out]; rfl) (by rw [HG.out]; exact j4.out) hM.out (by rw [HG.out]; exact fun _ _ h => h) (by rw [HG.out]; exact ⟨fun h => absurd h (by decide), fun _ => E1.out.symm⟩))
    · intro bf ac wv hfb haf hJ K' hK
      obtain ⟨vs, rfl, hM, j4⟩ := hJ
      replace hK := Lib.hid hK
      replace hM := Lib.hid hM
      rw [HG.out] at j4
      simp [Region.binds] at haf
      have e0 := ((j4 0 (by simp [haf])).2 (by decide)).trans E0.out
      have e1 := ((j4 1 (by simp [haf])).2 (by decide)).trans E1.out
      replace j4 := Lib.hid j4
      clear haf hfb
      rw [HLIT.out]
      go_simp
      go_at_call 9
      refine (chain2_any key id tag _ l _ ((H.out.step HB17.out).step hM.out)).mono ?_
      rintro e w4 ⟨uc, rfl, hu, b4⟩
      rw [hCH.out] at hu
      obtain ⟨ca, cc, hce, hcm, hcx⟩ := hu
      have hu := Lib.hid (show IntsAt w4 uc CH from ⟨ca, cc, hce, hcm, hcx⟩)
      clear hcm hcx
      subst hce
      exact hK.out _ _ (RS.next (wv := wv) (vs := vs) 2 (x := .slice ca CH.length cc) (by rw [HLIT.out]; simp only [upv, e0, e1, Nat.reduceBEq, cond_true, cond_false]) (by rw [HG.out]; exact j4.out) (keep2 b4 hM.out) (by rw [HG.out]; exact fun k v h => ⟨fun q => (by
        obtain ⟨ca, cn, cc, q1, q2⟩ := h.1 q
        exact ⟨ca, cn, cc, q1, q2.step b4⟩), h.2⟩) (by rw [HG.out]; exact ⟨fun _ => ⟨ca, _, cc, rfl, hu.out⟩, fun h2 => absurd rfl h2⟩))
    · intro bf ac wv hfb haf hJ K' hK
      obtain ⟨vs, rfl, hM, j4⟩ := hJ
      replace hK := Lib.hid hK
      replace hM := Lib.hid hM
      rw [HG.out] at j4
      replace j4 := Lib.hid j4
      clear haf hfb
      have K1 := KS_14.out.step hM.out
      have x0 := K1.c 0 rfl
      have xz := K1.2.2
      clear K1
      rw [HLIT.out]
      go_simp
      exact hK.out _ _ (RS.next (wv := wv) (vs := vs) 3 (x := .agg #[.slice ra m.length rc]) (by rw [HLIT.out]; rfl) (by rw [HG.out]; exact j4.out) hM.out (by rw [HG.out]; exact fun _ _ h => h) (by rw [HG.out]; exact ⟨fun h => absurd h (by decide), fun _ => E3.out.symm⟩))
    · intro bf ac wv hfb haf hJ K' hK
      obtain ⟨vs, rfl, hM, j4⟩ := hJ
      replace hK := Lib.hid hK
      replace hM := Lib.hid hM
      rw [HG.out] at j4
      simp [Region.binds] at haf
      have e3 := ((j4 3 (by simp [haf])).2 (by decide)).trans E3.out
      replace j4 := Lib.hid j4
      clear haf hfb
      rw [HLIT.out]
      go_simp
      go_at_call 19
      refine (tagsOf_any _ m _ ((HR.out.step HB17.out).step hM.out)).mono ?_
      rintro e w4 ⟨rfl, b4⟩
      exact hK.out _ _ (RS.next (wv := wv) (vs := vs) 4 (x := .agg #[.slice ra m.length rc, .func (.func 41) #[] #[]]) (by rw [HLIT.out]; simp only [upv, e3, Nat.reduceBEq, cond_true, cond_false]) (by rw [HG.out]; exact j4.out) (keep2 b4 hM.out) (by rw [HG.out]; exact fun k v h => ⟨fun q => (by
        obtain ⟨ca, cn, cc, q1, q2⟩ := h.1 q
        exact ⟨ca, cn, cc, q1, q2.step b4⟩), h.2⟩) (by rw [HG.out]; exact ⟨fun h => absurd h (by decide), fun _ => E4.out.symm⟩))
    · intro bf ac wv hfb haf hJ K' hK
      obtain ⟨vs, rfl, hM, j4⟩ := hJ
      replace hK := Lib.hid hK
      replace hM := Lib.hid hM
      rw [HG.out] at j4
      simp [Region.binds] at haf
      have e4 := ((j4 4 (by simp [haf])).2 (by decide)).trans E4.out
      replace j4 := Lib.hid j4
      clear haf hfb
      rw [HLIT.out]
      go_simp
      exact hK.out _ _ (RS.next (wv := wv) (vs := vs) 5 (x := .func (.func 36) #[.agg #[.slice ra m.length rc, .func (.func 41) #[] #[]]] #[]) (by rw [HLIT.out]; simp only [upv, e4, Nat.reduceBEq, cond_true, cond_false]) (by rw [HG.out]; exact j4.out) hM.out (by rw [HG.out]; exact fun _ _ h => h) (by rw [HG.out]; exact ⟨fun h => absurd h (by decide), fun _ => E5.out.symm⟩))
    · intro bf ac wv hfb haf hJ K' hK
      obtain ⟨vs, rfl, hM, j4⟩ := hJ
      replace hK := Lib.hid hK
      replace hM := Lib.hid hM
      rw [HG.out] at j4
      simp [Region.binds] at haf
      have e2 := (j4 2 (by simp [haf])).1 rfl
      have e5 := ((j4 5 (by simp [haf])).2 (by decide)).trans E5.out
      replace j4 := Lib.hid j4
      clear haf hfb
      obtain ⟨ca, cn, cc, e2, hci⟩ := e2
      rw [e2] at hci
      rw [HLIT.out]
      go_simp
      go_at_call 35
      refine (containsHas_any _ _ CH m _ hci ((HR.out.step HB17.out).step hM.out) S1.out HCB.out).mono ?_
      rintro e w4 ⟨rfl, b4⟩
      rw [hab.out]
      exact hK.out _ _ (RS.next (wv := wv) (vs := vs) 6 (x := .bool ab) (by rw [HLIT.out]; simp only [upv, e2, e5, Nat.reduceBEq, cond_true, cond_false]) (by rw [HG.out]; exact j4.out) (keep2 b4 hM.out) (by rw [HG.out]; exact fun k v h => ⟨fun q => (by
        obtain ⟨ca, cn, cc, q1, q2⟩ := h.1 q
        exact ⟨ca, cn, cc, q1, q2.step b4⟩), h.2⟩) (by rw [HG.out]; exact ⟨fun h => absurd h (by decide), fun _ => E6.out.symm⟩))
  · intro bf ac wv hall hJ
    obtain ⟨vs, rfl, hM, j4⟩ := hJ
    rw [HG.out] at j4
    have e6 := ((j4 6 (hall 6 (by decide))).2 (by decide)).trans E6.out
    have HB9 := Lib.hid (keep2 hM HB17.out)
    clear hall j4 hM
    rw [HLIT.out]
    dsimp only
    rw [e6]
    clear e6
    cases ab
    · go_wp2
      go_ret
      exact ⟨ret_int (by rw [← HZ.out, hCH.out, hab.out, her.out]; rfl), HB9.out⟩
    · go_wp2
      go_ret
      exact ⟨ret_int (by rw [← HZ.out, hCH.out, hab.out]; rfl), HB9.out⟩
theorem chk_any (key id tag r v x t u : Int) (vr sl : Value) (m : List Int) (l : List Cv) (w : World) (h : CvsAt w sl l) (hr : IntsAt w vr m) : Calls Try.prog 13 #[.int .i64 key, .agg #[vr], .agg #[.int .i64 id, sl, .int .i64 tag], .agg #[.int .i64 r, .int .i64 v, .int .i64 x, .int .i64 t], .int .i64 u] w fun e w' => e = .returned (.int .i64 (ckR key m id tag l r v x t u)) ∧ Below w.heap.size w w' := by
  cases h1 : stB m
  · have : ckR key m id tag l r v x t u = 1 := by unfold ckR; simp [h1]
    rw [this]
    exact chk_bad1 key id tag r v x t u vr sl m l w h hr h1
  · by_cases h2 : ckV key id tag l r v x t u = 1
    · have : ckR key m id tag l r v x t u = 1 := by unfold ckR; simp [h1, h2]
      rw [this]
      exact chk_bad2 key id tag r v x t u vr sl m l w h hr h1 h2
    · have : ckR key m id tag l r v x t u = if (chB key id tag l).any (inB m) then 21 else ckV key id tag l r v x t u := by unfold ckR; rw [if_pos h1, if_neg h2]
      rw [this]
      exact chk_main key id tag r v x t u vr sl m l w h hr h1 h2 _ rfl
end Go.Proofs.Ytoaleijfpocdjaa
