/- Capabilities: 'Check'. -/
import Derived.Test.YtoaleijfpocdjaaKi
namespace Go.Proofs.Ytoaleijfpocdjaa
open Go.RowKit

theorem permits_any (id tag r v x t u : Int) (sl : Value) (l : List Cv) (w : World) (h : CvsAt w sl l) : Calls Try.prog 12 #[.agg #[.int .i64 id, sl, .int .i64 tag], .agg #[.int .i64 r, .int .i64 v, .int .i64 x, .int .i64 t], .int .i64 u] w fun e w' => e = .returned (.int .i64 (pmE id tag l r v x t u)) ∧ Below w.heap.size w w' := by
  cases h1 : capB id tag l
  · have : pmE id tag l r v x t u = 1 := by unfold pmE pmB; simp [h1]
    rw [this]; exact permits_cap id tag r v x t u sl l w h h1
  · cases h2 : asB r v x t
    · have : pmE id tag l r v x t u = 1 := by unfold pmE pmB; simp [h2]
      rw [this]; exact permits_ask id tag r v x t u sl l w h h1 h2
    · cases h3 : inr u 0 1000000000
      · have : pmE id tag l r v x t u = 1 := by unfold pmE pmB; simp [h3]
        rw [this]; exact permits_used id tag r v x t u sl l w h h1 h2 h3
      · have : pmE id tag l r v x t u = prL r v t u l := by unfold pmE pmB; simp [h1, h2, h3]
        rw [this]; exact permits_ok id tag r v x t u sl l w h h1 h2 h3
/-- What 'Check' gives. -/
def ckV (key id tag : Int) (l : List Cv) (r v x t u : Int) : Int :=
  if inr key 0 2147483646 && !(pmE id tag l r v x t u == 1) then (if gnB key id tag l then pmE id tag l r v x t u else 15) else 1
set_option maxRecDepth 100000 in
set_option maxHeartbeats 4000000 in
theorem check_key (key id tag r v x t u er : Int) (sl : Value) (l : List Cv) (w : World) (h : CvsAt w sl l) (he : pmE id tag l r v x t u = er) (hk : inr key 0 2147483646 = false) : Calls Try.prog 34 #[.int .i64 key, .agg #[.int .i64 id, sl, .int .i64 tag], .agg #[.int .i64 r, .int .i64 v, .int .i64 x, .int .i64 t], .int .i64 u] w fun e w' => e = .returned (.int .i64 1) ∧ Below w.heap.size w w' := by
  have H := Lib.hid h
  have HE := Lib.hid he
  obtain ⟨a, cap, rfl, -, -, -⟩ := h
  clear he
  have HK := Lib.hid hk
  clear hk
  have HB0 := Lib.hid (Below.refl w.heap.size w)
  go_enter Try.func34, Try.ntmps34
  have KA_1 := Lib.hid (Cs.new w (w.heap.size) #[.int .i64 id, .slice a l.length cap, .int .i64 tag] 30 (by simp))
  have HB2 : Hid (Below w.heap.size w (w.alloc (.cells #[.int .i64 id, .slice a l.length cap, .int .i64 tag] 30))) := HB0.out.alloc HB0.out.size _
  clear HB0
  have KA_3 := Lib.hid (KA_1.out.alloc (.cells #[.int .i64 r, .int .i64 v, .int .i64 x, .int .i64 t] 26))
  clear KA_1
  have KK_4 := Lib.hid (Cs.new (w.alloc (.cells #[.int .i64 id, .slice a l.length cap, .int .i64 tag] 30)) (w.heap.size + 1) #[.int .i64 r, .int .i64 v, .int .i64 x, .int .i64 t] 26 (by simp))
  have HB5 : Hid (Below w.heap.size w ((w.alloc (.cells #[.int .i64 id, .slice a l.length cap, .int .i64 tag] 30)).alloc (.cells #[.int .i64 r, .int .i64 v, .int .i64 x, .int .i64 t] 26))) := HB2.out.alloc HB2.out.size _
  clear HB2
  have xA0 : ((w.alloc (.cells #[.int .i64 id, .slice a l.length cap, .int .i64 tag] 30)).alloc (.cells #[.int .i64 r, .int .i64 v, .int .i64 x, .int .i64 t] 26)).cell? ⟨w.heap.size, 0, none⟩ = some (.int .i64 id) := KA_3.out.c 0 rfl
  have xA1 : ((w.alloc (.cells #[.int .i64 id, .slice a l.length cap, .int .i64 tag] 30)).alloc (.cells #[.int .i64 r, .int .i64 v, .int .i64 x, .int .i64 t] 26)).cell? ⟨w.heap.size, 1, none⟩ = some (.slice a l.length cap) := KA_3.out.c 1 rfl
  have xA2 : ((w.alloc (.cells #[.int .i64 id, .slice a l.length cap, .int .i64 tag] 30)).alloc (.cells #[.int .i64 r, .int .i64 v, .int .i64 x, .int .i64 t] 26)).cell? ⟨w.heap.size, 2, none⟩ = some (.int .i64 tag) := KA_3.out.c 2 rfl
  have zA : w.heap.size < ((w.alloc (.cells #[.int .i64 id, .slice a l.length cap, .int .i64 tag] 30)).alloc (.cells #[.int .i64 r, .int .i64 v, .int .i64 x, .int .i64 t] 26)).heap.size := KA_3.out.2.2
  have z2A : w.heap.size < ((w.alloc (.cells #[.int .i64 id, .slice a l.length cap, .int .i64 tag] 30)).alloc (.cells #[.int .i64 r, .int .i64 v, .int .i64 x, .int .i64 t] 26)).heap.size + 1 := by omega
  have xK0 : ((w.alloc (.cells #[.int .i64 id, .slice a l.length cap, .int .i64 tag] 30)).alloc (.cells #[.int .i64 r, .int .i64 v, .int .i64 x, .int .i64 t] 26)).cell? ⟨w.heap.size + 1, 0, none⟩ = some (.int .i64 r) := KK_4.out.c 0 rfl
  have xK1 : ((w.alloc (.cells #[.int .i64 id, .slice a l.length cap, .int .i64 tag] 30)).alloc (.cells #[.int .i64 r, .int .i64 v, .int .i64 x, .int .i64 t] 26)).cell? ⟨w.heap.size + 1, 1, none⟩ = some (.int .i64 v) := KK_4.out.c 1 rfl
  have xK2 : ((w.alloc (.cells #[.int .i64 id, .slice a l.length cap, .int .i64 tag] 30)).alloc (.cells #[.int .i64 r, .int .i64 v, .int .i64 x, .int .i64 t] 26)).cell? ⟨w.heap.size + 1, 2, none⟩ = some (.int .i64 x) := KK_4.out.c 2 rfl
  have xK3 : ((w.alloc (.cells #[.int .i64 id, .slice a l.length cap, .int .i64 tag] 30)).alloc (.cells #[.int .i64 r, .int .i64 v, .int .i64 x, .int .i64 t] 26)).cell? ⟨w.heap.size + 1, 3, none⟩ = some (.int .i64 t) := KK_4.out.c 3 rfl
  have zK : w.heap.size + 1 < ((w.alloc (.cells #[.int .i64 id, .slice a l.length cap, .int .i64 tag] 30)).alloc (.cells #[.int .i64 r, .int .i64 v, .int .i64 x, .int .i64 t] 26)).heap.size := KK_4.out.2.2
  have z2K : w.heap.size + 1 < ((w.alloc (.cells #[.int .i64 id, .slice a l.length cap, .int .i64 tag] 30)).alloc (.cells #[.int .i64 r, .int .i64 v, .int .i64 x, .int .i64 t] 26)).heap.size + 1 := by omega
  go_wp2_with fail
  refine (permits_any id tag r v x t u _ l _ (H.out.step HB5.out)).mono ?_
  rintro e u1 ⟨rfl, b1⟩
  clear xA0 xA1 xA2 zA z2A xK0 xK1 xK2 xK3 zK z2K
  have KA_6 := Lib.hid (KA_3.out.step b1)
  clear KA_3
  have KK_7 := Lib.hid (KK_4.out.step b1)
  clear KK_4
  have HB8 := Lib.hid (keep2 b1 HB5.out)
  clear HB5 b1
  rw [HE.out]
  go_wp2_with fail
  refine (within_q key 0 2147483646 _ HK.out _).mono ?_
  rintro e w' ⟨rfl, rfl⟩
  go_wp2
  go_ret
  exact ⟨rfl, HB8.out⟩
set_option maxRecDepth 100000 in
set_option maxHeartbeats 4000000 in
theorem check_arg (key id tag r v x t u er : Int) (sl : Value) (l : List Cv) (w : World) (h : CvsAt w sl l) (he : pmE id tag l r v x t u = er) (hk : inr key 0 2147483646 = true) (h1 : er = 1) : Calls Try.prog 34 #[.int .i64 key, .agg #[.int .i64 id, sl, .int .i64 tag], .agg #[.int .i64 r, .int .i64 v, .int .i64 x, .int .i64 t], .int .i64 u] w fun e w' => e = .returned (.int .i64 1) ∧ Below w.heap.size w w' := by
  have H := Lib.hid h
  have HE := Lib.hid he
  obtain ⟨a, cap, rfl, -, -, -⟩ := h
  clear he
  have HK := Lib.hid hk
  clear hk
  subst h1
  have HB0 := Lib.hid (Below.refl w.heap.size w)
  go_enter Try.func34, Try.ntmps34
  have KA_1 := Lib.hid (Cs.new w (w.heap.size) #[.int .i64 id, .slice a l.length cap, .int .i64 tag] 30 (by simp))
  have HB2 : Hid (Below w.heap.size w (w.alloc (.cells #[.int .i64 id, .slice a l.length cap, .int .i64 tag] 30))) := HB0.out.alloc HB0.out.size _
  clear HB0
  have KA_3 := Lib.hid (KA_1.out.alloc (.cells #[.int .i64 r, .int .i64 v, .int .i64 x, .int .i64 t] 26))
  clear KA_1
  have KK_4 := Lib.hid (Cs.new (w.alloc (.cells #[.int .i64 id, .slice a l.length cap, .int .i64 tag] 30)) (w.heap.size + 1) #[.int .i64 r, .int .i64 v, .int .i64 x, .int .i64 t] 26 (by simp))
  have HB5 : Hid (Below w.heap.size w ((w.alloc (.cells #[.int .i64 id, .slice a l.length cap, .int .i64 tag] 30)).alloc (.cells #[.int .i64 r, .int .i64 v, .int .i64 x, .int .i64 t] 26))) := HB2.out.alloc HB2.out.size _
  clear HB2
  have xA0 : ((w.alloc (.cells #[.int .i64 id, .slice a l.length cap, .int .i64 tag] 30)).alloc (.cells #[.int .i64 r, .int .i64 v, .int .i64 x, .int .i64 t] 26)).cell? ⟨w.heap.size, 0, none⟩ = some (.int .i64 id) := KA_3.out.c 0 rfl
  have xA1 : ((w.alloc (.cells #[.int .i64 id, .slice a l.length cap, .int .i64 tag] 30)).alloc (.cells #[.int .i64 r, .int .i64 v, .int .i64 x, .int .i64 t] 26)).cell? ⟨w.heap.size, 1, none⟩ = some (.slice a l.length cap) := KA_3.out.c 1 rfl
  have xA2 : ((w.alloc (.cells #[.int .i64 id, .slice a l.length cap, .int .i64 tag] 30)).alloc (.cells #[.int .i64 r, .int .i64 v, .int .i64 x, .int .i64 t] 26)).cell? ⟨w.heap.size, 2, none⟩ = some (.int .i64 tag) := KA_3.out.c 2 rfl
  have zA : w.heap.size < ((w.alloc (.cells #[.int .i64 id, .slice a l.length cap, .int .i64 tag] 30)).alloc (.cells #[.int .i64 r, .int .i64 v, .int .i64 x, .int .i64 t] 26)).heap.size := KA_3.out.2.2
  have z2A : w.heap.size < ((w.alloc (.cells #[.int .i64 id, .slice a l.length cap, .int .i64 tag] 30)).alloc (.cells #[.int .i64 r, .int .i64 v, .int .i64 x, .int .i64 t] 26)).heap.size + 1 := by omega
  have xK0 : ((w.alloc (.cells #[.int .i64 id, .slice a l.length cap, .int .i64 tag] 30)).alloc (.cells #[.int .i64 r, .int .i64 v, .int .i64 x, .int .i64 t] 26)).cell? ⟨w.heap.size + 1, 0, none⟩ = some (.int .i64 r) := KK_4.out.c 0 rfl
  have xK1 : ((w.alloc (.cells #[.int .i64 id, .slice a l.length cap, .int .i64 tag] 30)).alloc (.cells #[.int .i64 r, .int .i64 v, .int .i64 x, .int .i64 t] 26)).cell? ⟨w.heap.size + 1, 1, none⟩ = some (.int .i64 v) := KK_4.out.c 1 rfl
  have xK2 : ((w.alloc (.cells #[.int .i64 id, .slice a l.length cap, .int .i64 tag] 30)).alloc (.cells #[.int .i64 r, .int .i64 v, .int .i64 x, .int .i64 t] 26)).cell? ⟨w.heap.size + 1, 2, none⟩ = some (.int .i64 x) := KK_4.out.c 2 rfl
  have xK3 : ((w.alloc (.cells #[.int .i64 id, .slice a l.length cap, .int .i64 tag] 30)).alloc (.cells #[.int .i64 r, .int .i64 v, .int .i64 x, .int .i64 t] 26)).cell? ⟨w.heap.size + 1, 3, none⟩ = some (.int .i64 t) := KK_4.out.c 3 rfl
  have zK : w.heap.size + 1 < ((w.alloc (.cells #[.int .i64 id, .slice a l.length cap, .int .i64 tag] 30)).alloc (.cells #[.int .i64 r, .int .i64 v, .int .i64 x, .int .i64 t] 26)).heap.size := KK_4.out.2.2
  have z2K : w.heap.size + 1 < ((w.alloc (.cells #[.int .i64 id, .slice a l.length cap, .int .i64 tag] 30)).alloc (.cells #[.int .i64 r, .int .i64 v, .int .i64 x, .int .i64 t] 26)).heap.size + 1 := by omega
  go_wp2_with fail
  refine (permits_any id tag r v x t u _ l _ (H.out.step HB5.out)).mono ?_
  rintro e u1 ⟨rfl, b1⟩
  clear xA0 xA1 xA2 zA z2A xK0 xK1 xK2 xK3 zK z2K
  have KA_6 := Lib.hid (KA_3.out.step b1)
  clear KA_3
  have KK_7 := Lib.hid (KK_4.out.step b1)
  clear KK_4
  have HB8 := Lib.hid (keep2 b1 HB5.out)
  clear HB5 b1
  rw [HE.out]
  go_wp2_with fail
  refine (within_q key 0 2147483646 _ HK.out _).mono ?_
  rintro e w' ⟨rfl, rfl⟩
  go_wp2
  go_ret
  exact ⟨rfl, HB8.out⟩
set_option maxRecDepth 100000 in
set_option maxHeartbeats 4000000 in
theorem check_tag (key id tag r v x t u er : Int) (sl : Value) (l : List Cv) (w : World) (h : CvsAt w sl l) (he : pmE id tag l r v x t u = er) (hk : inr key 0 2147483646 = true) (h1 : er ≠ 1) (hg : gnB key id tag l = false) : Calls Try.prog 34 #[.int .i64 key, .agg #[.int .i64 id, sl, .int .i64 tag], .agg #[.int .i64 r, .int .i64 v, .int .i64 x, .int .i64 t], .int .i64 u] w fun e w' => e = .returned (.int .i64 15) ∧ Below w.heap.size w w' := by
  have H := Lib.hid h
  have HE := Lib.hid he
  obtain ⟨a, cap, rfl, -, -, -⟩ := h
  clear he
  have HK := Lib.hid hk
  clear hk
  have q1 : (er == 1) = false := by simpa using h1
  have q2 : decide (er = 1) = false := by simpa using h1
  clear h1
  have HG := Lib.hid hg
  clear hg
  have HB0 := Lib.hid (Below.refl w.heap.size w)
  go_enter Try.func34, Try.ntmps34
  have KA_1 := Lib.hid (Cs.new w (w.heap.size) #[.int .i64 id, .slice a l.length cap, .int .i64 tag] 30 (by simp))
  have HB2 : Hid (Below w.heap.size w (w.alloc (.cells #[.int .i64 id, .slice a l.length cap, .int .i64 tag] 30))) := HB0.out.alloc HB0.out.size _
  clear HB0
  have KA_3 := Lib.hid (KA_1.out.alloc (.cells #[.int .i64 r, .int .i64 v, .int .i64 x, .int .i64 t] 26))
  clear KA_1
  have KK_4 := Lib.hid (Cs.new (w.alloc (.cells #[.int .i64 id, .slice a l.length cap, .int .i64 tag] 30)) (w.heap.size + 1) #[.int .i64 r, .int .i64 v, .int .i64 x, .int .i64 t] 26 (by simp))
  have HB5 : Hid (Below w.heap.size w ((w.alloc (.cells #[.int .i64 id, .slice a l.length cap, .int .i64 tag] 30)).alloc (.cells #[.int .i64 r, .int .i64 v, .int .i64 x, .int .i64 t] 26))) := HB2.out.alloc HB2.out.size _
  clear HB2
  have xA0 : ((w.alloc (.cells #[.int .i64 id, .slice a l.length cap, .int .i64 tag] 30)).alloc (.cells #[.int .i64 r, .int .i64 v, .int .i64 x, .int .i64 t] 26)).cell? ⟨w.heap.size, 0, none⟩ = some (.int .i64 id) := KA_3.out.c 0 rfl
  have xA1 : ((w.alloc (.cells #[.int .i64 id, .slice a l.length cap, .int .i64 tag] 30)).alloc (.cells #[.int .i64 r, .int .i64 v, .int .i64 x, .int .i64 t] 26)).cell? ⟨w.heap.size, 1, none⟩ = some (.slice a l.length cap) := KA_3.out.c 1 rfl
  have xA2 : ((w.alloc (.cells #[.int .i64 id, .slice a l.length cap, .int .i64 tag] 30)).alloc (.cells #[.int .i64 r, .int .i64 v, .int .i64 x, .int .i64 t] 26)).cell? ⟨w.heap.size, 2, none⟩ = some (.int .i64 tag) := KA_3.out.c 2 rfl
  have zA : w.heap.size < ((w.alloc (.cells #[.int .i64 id, .slice a l.length cap, .int .i64 tag] 30)).alloc (.cells #[.int .i64 r, .int .i64 v, .int .i64 x, .int .i64 t] 26)).heap.size := KA_3.out.2.2
  have z2A : w.heap.size < ((w.alloc (.cells #[.int .i64 id, .slice a l.length cap, .int .i64 tag] 30)).alloc (.cells #[.int .i64 r, .int .i64 v, .int .i64 x, .int .i64 t] 26)).heap.size + 1 := by omega
  have xK0 : ((w.alloc (.cells #[.int .i64 id, .slice a l.length cap, .int .i64 tag] 30)).alloc (.cells #[.int .i64 r, .int .i64 v, .int .i64 x, .int .i64 t] 26)).cell? ⟨w.heap.size + 1, 0, none⟩ = some (.int .i64 r) := KK_4.out.c 0 rfl
  have xK1 : ((w.alloc (.cells #[.int .i64 id, .slice a l.length cap, .int .i64 tag] 30)).alloc (.cells #[.int .i64 r, .int .i64 v, .int .i64 x, .int .i64 t] 26)).cell? ⟨w.heap.size + 1, 1, none⟩ = some (.int .i64 v) := KK_4.out.c 1 rfl
  have xK2 : ((w.alloc (.cells #[.int .i64 id, .slice a l.length cap, .int .i64 tag] 30)).alloc (.cells #[.int .i64 r, .int .i64 v, .int .i64 x, .int .i64 t] 26)).cell? ⟨w.heap.size + 1, 2, none⟩ = some (.int .i64 x) := KK_4.out.c 2 rfl
  have xK3 : ((w.alloc (.cells #[.int .i64 id, .slice a l.length cap, .int .i64 tag] 30)).alloc (.cells #[.int .i64 r, .int .i64 v, .int .i64 x, .int .i64 t] 26)).cell? ⟨w.heap.size + 1, 3, none⟩ = some (.int .i64 t) := KK_4.out.c 3 rfl
  have zK : w.heap.size + 1 < ((w.alloc (.cells #[.int .i64 id, .slice a l.length cap, .int .i64 tag] 30)).alloc (.cells #[.int .i64 r, .int .i64 v, .int .i64 x, .int .i64 t] 26)).heap.size := KK_4.out.2.2
  have z2K : w.heap.size + 1 < ((w.alloc (.cells #[.int .i64 id, .slice a l.length cap, .int .i64 tag] 30)).alloc (.cells #[.int .i64 r, .int .i64 v, .int .i64 x, .int .i64 t] 26)).heap.size + 1 := by omega
  go_wp2_with fail
  refine (permits_any id tag r v x t u _ l _ (H.out.step HB5.out)).mono ?_
  rintro e u1 ⟨rfl, b1⟩
  clear xA0 xA1 xA2 zA z2A xK0 xK1 xK2 xK3 zK z2K
  have KA_6 := Lib.hid (KA_3.out.step b1)
  clear KA_3
  have KK_7 := Lib.hid (KK_4.out.step b1)
  clear KK_4
  have HB8 := Lib.hid (keep2 b1 HB5.out)
  clear HB5 b1
  rw [HE.out]
  go_wp2_with fail
  refine (within_q key 0 2147483646 _ HK.out _).mono ?_
  rintro e w' ⟨rfl, rfl⟩
  have xA0 : u1.cell? ⟨w.heap.size, 0, none⟩ = some (.int .i64 id) := KA_6.out.c 0 rfl
  have xA1 : u1.cell? ⟨w.heap.size, 1, none⟩ = some (.slice a l.length cap) := KA_6.out.c 1 rfl
  have xA2 : u1.cell? ⟨w.heap.size, 2, none⟩ = some (.int .i64 tag) := KA_6.out.c 2 rfl
  have zA : w.heap.size < u1.heap.size := KA_6.out.2.2
  have z2A : w.heap.size < u1.heap.size + 1 := by omega
  go_wp2_with fail
  refine (genuine_any key id tag _ l _ (H.out.step HB8.out)).mono ?_
  rintro e u2 ⟨rfl, b2⟩
  clear xA0 xA1 xA2 zA z2A
  have KA_9 := Lib.hid (KA_6.out.step b2)
  clear KA_6
  have KK_10 := Lib.hid (KK_7.out.step b2)
  clear KK_7
  have HB11 := Lib.hid (keep2 b2 HB8.out)
  clear HB8 b2
  rw [HG.out]
  go_wp2
  go_ret
  exact ⟨rfl, HB11.out⟩
set_option maxRecDepth 100000 in
set_option maxHeartbeats 4000000 in
theorem check_ok (key id tag r v x t u er : Int) (sl : Value) (l : List Cv) (w : World) (h : CvsAt w sl l) (he : pmE id tag l r v x t u = er) (hk : inr key 0 2147483646 = true) (h1 : er ≠ 1) (hg : gnB key id tag l = true) : Calls Try.prog 34 #[.int .i64 key, .agg #[.int .i64 id, sl, .int .i64 tag], .agg #[.int .i64 r, .int .i64 v, .int .i64 x, .int .i64 t], .int .i64 u] w fun e w' => e = .returned (.int .i64 er) ∧ Below w.heap.size w w' := by
  have H := Lib.hid h
  have HE := Lib.hid he
  obtain ⟨a, cap, rfl, -, -, -⟩ := h
  clear he
  have HK := Lib.hid hk
  clear hk
  have q1 : (er == 1) = false := by simpa using h1
  have q2 : decide (er = 1) = false := by simpa using h1
  clear h1
  have HG := Lib.hid hg
  clear hg
  have HB0 := Lib.hid (Below.refl w.heap.size w)
  go_enter Try.func34, Try.ntmps34
  have KA_1 := Lib.hid (Cs.new w (w.heap.size) #[.int .i64 id, .slice a l.length cap, .int .i64 tag] 30 (by simp))
  have HB2 : Hid (Below w.heap.size w (w.alloc (.cells #[.int .i64 id, .slice a l.length cap, .int .i64 tag] 30))) := HB0.out.alloc HB0.out.size _
  clear HB0
  have KA_3 := Lib.hid (KA_1.out.alloc (.cells #[.int .i64 r, .int .i64 v, .int .i64 x, .int .i64 t] 26))
  clear KA_1
  have KK_4 := Lib.hid (Cs.new (w.alloc (.cells #[.int .i64 id, .slice a l.length cap, .int .i64 tag] 30)) (w.heap.size + 1) #[.int .i64 r, .int .i64 v, .int .i64 x, .int .i64 t] 26 (by simp))
  have HB5 : Hid (Below w.heap.size w ((w.alloc (.cells #[.int .i64 id, .slice a l.length cap, .int .i64 tag] 30)).alloc (.cells #[.int .i64 r, .int .i64 v, .int .i64 x, .int .i64 t] 26))) := HB2.out.alloc HB2.out.size _
  clear HB2
  have xA0 : ((w.alloc (.cells #[.int .i64 id, .slice a l.length cap, .int .i64 tag] 30)).alloc (.cells #[.int .i64 r, .int .i64 v, .int .i64 x, .int .i64 t] 26)).cell? ⟨w.heap.size, 0, none⟩ = some (.int .i64 id) := KA_3.out.c 0 rfl
  have xA1 : ((w.alloc (.cells #[.int .i64 id, .slice a l.length cap, .int .i64 tag] 30)).alloc (.cells #[.int .i64 r, .int .i64 v, .int .i64 x, .int .i64 t] 26)).cell? ⟨w.heap.size, 1, none⟩ = some (.slice a l.length cap) := KA_3.out.c 1 rfl
  have xA2 : ((w.alloc (.cells #[.int .i64 id, .slice a l.length cap, .int .i64 tag] 30)).alloc (.cells #[.int .i64 r, .int .i64 v, .int .i64 x, .int .i64 t] 26)).cell? ⟨w.heap.size, 2, none⟩ = some (.int .i64 tag) := KA_3.out.c 2 rfl
  have zA : w.heap.size < ((w.alloc (.cells #[.int .i64 id, .slice a l.length cap, .int .i64 tag] 30)).alloc (.cells #[.int .i64 r, .int .i64 v, .int .i64 x, .int .i64 t] 26)).heap.size := KA_3.out.2.2
  have z2A : w.heap.size < ((w.alloc (.cells #[.int .i64 id, .slice a l.length cap, .int .i64 tag] 30)).alloc (.cells #[.int .i64 r, .int .i64 v, .int .i64 x, .int .i64 t] 26)).heap.size + 1 := by omega
  have xK0 : ((w.alloc (.cells #[.int .i64 id, .slice a l.length cap, .int .i64 tag] 30)).alloc (.cells #[.int .i64 r, .int .i64 v, .int .i64 x, .int .i64 t] 26)).cell? ⟨w.heap.size + 1, 0, none⟩ = some (.int .i64 r) := KK_4.out.c 0 rfl
  have xK1 : ((w.alloc (.cells #[.int .i64 id, .slice a l.length cap, .int .i64 tag] 30)).alloc (.cells #[.int .i64 r, .int .i64 v, .int .i64 x, .int .i64 t] 26)).cell? ⟨w.heap.size + 1, 1, none⟩ = some (.int .i64 v) := KK_4.out.c 1 rfl
  have xK2 : ((w.alloc (.cells #[.int .i64 id, .slice a l.length cap, .int .i64 tag] 30)).alloc (.cells #[.int .i64 r, .int .i64 v, .int .i64 x, .int .i64 t] 26)).cell? ⟨w.heap.size + 1, 2, none⟩ = some (.int .i64 x) := KK_4.out.c 2 rfl
  have xK3 : ((w.alloc (.cells #[.int .i64 id, .slice a l.length cap, .int .i64 tag] 30)).alloc (.cells #[.int .i64 r, .int .i64 v, .int .i64 x, .int .i64 t] 26)).cell? ⟨w.heap.size + 1, 3, none⟩ = some (.int .i64 t) := KK_4.out.c 3 rfl
  have zK : w.heap.size + 1 < ((w.alloc (.cells #[.int .i64 id, .slice a l.length cap, .int .i64 tag] 30)).alloc (.cells #[.int .i64 r, .int .i64 v, .int .i64 x, .int .i64 t] 26)).heap.size := KK_4.out.2.2
  have z2K : w.heap.size + 1 < ((w.alloc (.cells #[.int .i64 id, .slice a l.length cap, .int .i64 tag] 30)).alloc (.cells #[.int .i64 r, .int .i64 v, .int .i64 x, .int .i64 t] 26)).heap.size + 1 := by omega
  go_wp2_with fail
  refine (permits_any id tag r v x t u _ l _ (H.out.step HB5.out)).mono ?_
  rintro e u1 ⟨rfl, b1⟩
  clear xA0 xA1 xA2 zA z2A xK0 xK1 xK2 xK3 zK z2K
  have KA_6 := Lib.hid (KA_3.out.step b1)
  clear KA_3
  have KK_7 := Lib.hid (KK_4.out.step b1)
  clear KK_4
  have HB8 := Lib.hid (keep2 b1 HB5.out)
  clear HB5 b1
  rw [HE.out]
  go_wp2_with fail
  refine (within_q key 0 2147483646 _ HK.out _).mono ?_
  rintro e w' ⟨rfl, rfl⟩
  have xA0 : u1.cell? ⟨w.heap.size, 0, none⟩ = some (.int .i64 id) := KA_6.out.c 0 rfl
  have xA1 : u1.cell? ⟨w.heap.size, 1, none⟩ = some (.slice a l.length cap) := KA_6.out.c 1 rfl
  have xA2 : u1.cell? ⟨w.heap.size, 2, none⟩ = some (.int .i64 tag) := KA_6.out.c 2 rfl
  have zA : w.heap.size < u1.heap.size := KA_6.out.2.2
  have z2A : w.heap.size < u1.heap.size + 1 := by omega
  go_wp2_with fail
  refine (genuine_any key id tag _ l _ (H.out.step HB8.out)).mono ?_
  rintro e u2 ⟨rfl, b2⟩
  clear xA0 xA1 xA2 zA z2A
  have KA_9 := Lib.hid (KA_6.out.step b2)
  clear KA_6
  have KK_10 := Lib.hid (KK_7.out.step b2)
  clear KK_7
  have HB11 := Lib.hid (keep2 b2 HB8.out)
  clear HB8 b2
  rw [HG.out]
  go_wp2
  go_ret
  exact ⟨rfl, HB11.out⟩
theorem check_any (key id tag r v x t u : Int) (sl : Value) (l : List Cv) (w : World) (h : CvsAt w sl l) : Calls Try.prog 34 #[.int .i64 key, .agg #[.int .i64 id, sl, .int .i64 tag], .agg #[.int .i64 r, .int .i64 v, .int .i64 x, .int .i64 t], .int .i64 u] w fun e w' => e = .returned (.int .i64 (ckV key id tag l r v x t u)) ∧ Below w.heap.size w w' := by
  cases h1 : inr key 0 2147483646
  · have : ckV key id tag l r v x t u = 1 := by unfold ckV; simp [h1]
    rw [this]; exact check_key key id tag r v x t u _ sl l w h rfl h1
  · by_cases h2 : pmE id tag l r v x t u = 1
    · have : ckV key id tag l r v x t u = 1 := by unfold ckV; simp [h2]
      rw [this]; exact check_arg key id tag r v x t u _ sl l w h rfl h1 h2
    · cases h3 : gnB key id tag l
      · have : ckV key id tag l r v x t u = 15 := by unfold ckV; simp [h1, h2, h3]
        rw [this]; exact check_tag key id tag r v x t u _ sl l w h rfl h1 h2 h3
      · have : ckV key id tag l r v x t u = pmE id tag l r v x t u := by unfold ckV; simp [h1, h2, h3]
        rw [this]; exact check_ok key id tag r v x t u _ sl l w h rfl h1 h2 h3
end Go.Proofs.Ytoaleijfpocdjaa
