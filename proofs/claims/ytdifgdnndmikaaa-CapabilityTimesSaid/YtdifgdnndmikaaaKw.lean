/- Capabilities: law CapabilityTimes, the walk. -/
import Derived.Test.YtdifgdnndmikaaaKv
namespace Go.Proofs.Ytdifgdnndmikaaa
open Go.RowKit

set_option maxRecDepth 100000 in
set_option maxHeartbeats 4000000 in
theorem times_len (id tag : Int) (sl : Value) (l : List Cv) (r v x t u d1 d2 d3 : Int) (w : World) (h : CvsAt w sl l) (b1 : 0 ≤ d1 ∧ d1 ≤ 65535) (b2 : 0 ≤ d2 ∧ d2 ≤ 65535) (b3 : 0 ≤ d3 ∧ d3 ≤ 65535) (hl : 12 < l.length) : Calls Try.prog 8 #[.agg #[.int .i64 id, sl, .int .i64 tag], .agg #[.int .i64 r, .int .i64 v, .int .i64 x, .int .i64 t], .int .i64 u, .int .u16 d1, .int .u16 d2, .int .u16 d3] w fun e w' => e = .returned (.bool true) ∧ Below w.heap.size w w' := by
  have H := Lib.hid h
  obtain ⟨a, cap, rfl, -, hm, -⟩ := h
  unfold maxLen at hm
  have hg : decide ((l.length : Int) > 12) = true := by simp; omega
  have hg2 : decide ((12 : Int) < l.length) = true := by simp; omega
  have HB0 := Lib.hid (Below.refl w.heap.size w)
  go_enter Try.func8, Try.ntmps8
  have KA_1 := Lib.hid (Cs.new w (w.heap.size) #[.int .i64 id, .slice a l.length cap, .int .i64 tag] 24 (by simp))
  have HB2 : Hid (Below w.heap.size w (w.alloc (.cells #[.int .i64 id, .slice a l.length cap, .int .i64 tag] 24))) := HB0.out.alloc HB0.out.size _
  clear HB0
  have KA_3 := Lib.hid (KA_1.out.alloc (.cells #[.int .i64 r, .int .i64 v, .int .i64 x, .int .i64 t] 28))
  clear KA_1
  have KK_4 := Lib.hid (Cs.new (w.alloc (.cells #[.int .i64 id, .slice a l.length cap, .int .i64 tag] 24)) (w.heap.size + 1) #[.int .i64 r, .int .i64 v, .int .i64 x, .int .i64 t] 28 (by simp))
  have HB5 : Hid (Below w.heap.size w ((w.alloc (.cells #[.int .i64 id, .slice a l.length cap, .int .i64 tag] 24)).alloc (.cells #[.int .i64 r, .int .i64 v, .int .i64 x, .int .i64 t] 28))) := HB2.out.alloc HB2.out.size _
  clear HB2
  go_wp2_with fail
  refine (head_any _).mono ?_
  rintro e u1 ⟨rfl, b1⟩
  have KA_6 := Lib.hid (KA_3.out.step b1)
  clear KA_3
  have KK_7 := Lib.hid (KK_4.out.step b1)
  clear KK_4
  have HB8 := Lib.hid (keep2 b1 HB5.out)
  clear HB5 b1
  have xA0 : u1.cell? ⟨w.heap.size, 0, none⟩ = some (.int .i64 id) := KA_6.out.c 0 rfl
  have xA1 : u1.cell? ⟨w.heap.size, 1, none⟩ = some (.slice a l.length cap) := KA_6.out.c 1 rfl
  have xA2 : u1.cell? ⟨w.heap.size, 2, none⟩ = some (.int .i64 tag) := KA_6.out.c 2 rfl
  have zA : w.heap.size < u1.heap.size := KA_6.out.2.2
  have z2A : w.heap.size < u1.heap.size + 1 := by omega
  have xK0 : u1.cell? ⟨w.heap.size + 1, 0, none⟩ = some (.int .i64 r) := KK_7.out.c 0 rfl
  have xK1 : u1.cell? ⟨w.heap.size + 1, 1, none⟩ = some (.int .i64 v) := KK_7.out.c 1 rfl
  have xK2 : u1.cell? ⟨w.heap.size + 1, 2, none⟩ = some (.int .i64 x) := KK_7.out.c 2 rfl
  have xK3 : u1.cell? ⟨w.heap.size + 1, 3, none⟩ = some (.int .i64 t) := KK_7.out.c 3 rfl
  have zK : w.heap.size + 1 < u1.heap.size := KK_7.out.2.2
  have z2K : w.heap.size + 1 < u1.heap.size + 1 := by omega
  go_wp2_with fail
  have KA_9 := Lib.hid (KA_6.out.alloc (.cells #[.int .i64 r, .int .i64 v, .int .i64 x, .int .i64 (wrap64 (t + d1))] 28))
  clear KA_6
  have KK_10 := Lib.hid (KK_7.out.alloc (.cells #[.int .i64 r, .int .i64 v, .int .i64 x, .int .i64 (wrap64 (t + d1))] 28))
  clear KK_7
  have KB_11 := Lib.hid (Cs.new u1 (u1.heap.size) #[.int .i64 r, .int .i64 v, .int .i64 x, .int .i64 (wrap64 (t + d1))] 28 (by simp))
  have HB12 : Hid (Below w.heap.size w (u1.alloc (.cells #[.int .i64 r, .int .i64 v, .int .i64 x, .int .i64 (wrap64 (t + d1))] 28))) := HB8.out.alloc HB8.out.size _
  clear HB8
  go_wp2
  go_ret
  exact ⟨rfl, (by repeat (first | with_reducible exact HB12.out | with_reducible exact Below.refl _ _ | ((with_reducible refine Below.setCell ?_ ?_ _); rotate_left; focus (first | (simp; done) | (simp; omega) | omega)) | ((with_reducible refine Below.alloc ?_ ?_ _); rotate_left; focus (first | (simp; done) | (simp; omega) | omega)) | with_reducible refine Below.trans ?_ (below_drewN' _ _ _) | with_reducible refine Below.trans ?_ (below_drew _ _)))⟩
set_option maxRecDepth 100000 in
set_option maxHeartbeats 4000000 in
theorem times_one (id tag : Int) (sl : Value) (l : List Cv) (r v x t u d1 d2 d3 : Int) (w : World) (h : CvsAt w sl l) (b1 : 0 ≤ d1 ∧ d1 ≤ 65535) (b2 : 0 ≤ d2 ∧ d2 ≤ 65535) (b3 : 0 ≤ d3 ∧ d3 ≤ 65535) (hl : l.length ≤ 12) (hp : pmE id tag l r v x t u ≠ 0) : Calls Try.prog 8 #[.agg #[.int .i64 id, sl, .int .i64 tag], .agg #[.int .i64 r, .int .i64 v, .int .i64 x, .int .i64 t], .int .i64 u, .int .u16 d1, .int .u16 d2, .int .u16 d3] w fun e w' => e = .returned (.bool true) ∧ Below w.heap.size w w' := by
  have H := Lib.hid h
  obtain ⟨a, cap, rfl, -, hm, -⟩ := h
  unfold maxLen at hm
  have hg : decide ((l.length : Int) > 12) = false := by simp; omega
  have hg2 : decide ((12 : Int) < l.length) = false := by simp; omega
  have HB0 := Lib.hid (Below.refl w.heap.size w)
  go_enter Try.func8, Try.ntmps8
  have KA_1 := Lib.hid (Cs.new w (w.heap.size) #[.int .i64 id, .slice a l.length cap, .int .i64 tag] 24 (by simp))
  have HB2 : Hid (Below w.heap.size w (w.alloc (.cells #[.int .i64 id, .slice a l.length cap, .int .i64 tag] 24))) := HB0.out.alloc HB0.out.size _
  clear HB0
  have KA_3 := Lib.hid (KA_1.out.alloc (.cells #[.int .i64 r, .int .i64 v, .int .i64 x, .int .i64 t] 28))
  clear KA_1
  have KK_4 := Lib.hid (Cs.new (w.alloc (.cells #[.int .i64 id, .slice a l.length cap, .int .i64 tag] 24)) (w.heap.size + 1) #[.int .i64 r, .int .i64 v, .int .i64 x, .int .i64 t] 28 (by simp))
  have HB5 : Hid (Below w.heap.size w ((w.alloc (.cells #[.int .i64 id, .slice a l.length cap, .int .i64 tag] 24)).alloc (.cells #[.int .i64 r, .int .i64 v, .int .i64 x, .int .i64 t] 28))) := HB2.out.alloc HB2.out.size _
  clear HB2
  go_wp2_with fail
  refine (head_any _).mono ?_
  rintro e u1 ⟨rfl, b1⟩
  have KA_6 := Lib.hid (KA_3.out.step b1)
  clear KA_3
  have KK_7 := Lib.hid (KK_4.out.step b1)
  clear KK_4
  have HB8 := Lib.hid (keep2 b1 HB5.out)
  clear HB5 b1
  have xA0 : u1.cell? ⟨w.heap.size, 0, none⟩ = some (.int .i64 id) := KA_6.out.c 0 rfl
  have xA1 : u1.cell? ⟨w.heap.size, 1, none⟩ = some (.slice a l.length cap) := KA_6.out.c 1 rfl
  have xA2 : u1.cell? ⟨w.heap.size, 2, none⟩ = some (.int .i64 tag) := KA_6.out.c 2 rfl
  have zA : w.heap.size < u1.heap.size := KA_6.out.2.2
  have z2A : w.heap.size < u1.heap.size + 1 := by omega
  have xK0 : u1.cell? ⟨w.heap.size + 1, 0, none⟩ = some (.int .i64 r) := KK_7.out.c 0 rfl
  have xK1 : u1.cell? ⟨w.heap.size + 1, 1, none⟩ = some (.int .i64 v) := KK_7.out.c 1 rfl
  have xK2 : u1.cell? ⟨w.heap.size + 1, 2, none⟩ = some (.int .i64 x) := KK_7.out.c 2 rfl
  have xK3 : u1.cell? ⟨w.heap.size + 1, 3, none⟩ = some (.int .i64 t) := KK_7.out.c 3 rfl
  have zK : w.heap.size + 1 < u1.heap.size := KK_7.out.2.2
  have z2K : w.heap.size + 1 < u1.heap.size + 1 := by omega
  go_wp2_with fail
  have KA_9 := Lib.hid (KA_6.out.alloc (.cells #[.int .i64 r, .int .i64 v, .int .i64 x, .int .i64 (wrap64 (t + d1))] 28))
  clear KA_6
  have KK_10 := Lib.hid (KK_7.out.alloc (.cells #[.int .i64 r, .int .i64 v, .int .i64 x, .int .i64 (wrap64 (t + d1))] 28))
  clear KK_7
  have KB_11 := Lib.hid (Cs.new u1 (u1.heap.size) #[.int .i64 r, .int .i64 v, .int .i64 x, .int .i64 (wrap64 (t + d1))] 28 (by simp))
  have HB12 : Hid (Below w.heap.size w (u1.alloc (.cells #[.int .i64 r, .int .i64 v, .int .i64 x, .int .i64 (wrap64 (t + d1))] 28))) := HB8.out.alloc HB8.out.size _
  clear HB8
  refine (permits_any id tag r v x t u _ l _ (H.out.step HB12.out)).mono ?_
  rintro e u2 ⟨rfl, b2⟩
  clear xA0 xA1 xA2 zA z2A xK0 xK1 xK2 xK3 zK z2K
  have KA_13 := Lib.hid (KA_9.out.step b2)
  clear KA_9
  have KK_14 := Lib.hid (KK_10.out.step b2)
  clear KK_10
  have KB_15 := Lib.hid (KB_11.out.step b2)
  clear KB_11
  have HB16 := Lib.hid (keep2 b2 HB12.out)
  clear HB12 b2
  obtain ⟨er, her⟩ : ∃ er, pmE id tag l r v x t u = er := ⟨_, rfl⟩
  rw [her]
  rw [her] at hp
  have h0 := hp
  clear her
  have q1 : (er != 0) = true := by simpa using h0
  have q2 : (er == 0) = false := by simpa using h0
  have q3 : decide (er = 0) = false := by simpa using h0
  go_wp2
  go_ret
  exact ⟨rfl, (by repeat (first | with_reducible exact HB16.out | with_reducible exact Below.refl _ _ | ((with_reducible refine Below.setCell ?_ ?_ _); rotate_left; focus (first | (simp; done) | (simp; omega) | omega)) | ((with_reducible refine Below.alloc ?_ ?_ _); rotate_left; focus (first | (simp; done) | (simp; omega) | omega)) | with_reducible refine Below.trans ?_ (below_drewN' _ _ _) | with_reducible refine Below.trans ?_ (below_drew _ _)))⟩
set_option maxRecDepth 100000 in
set_option maxHeartbeats 4000000 in
theorem times_two (id tag : Int) (sl : Value) (l : List Cv) (r v x t u d1 d2 d3 : Int) (w : World) (h : CvsAt w sl l) (b1 : 0 ≤ d1 ∧ d1 ≤ 65535) (b2 : 0 ≤ d2 ∧ d2 ≤ 65535) (b3 : 0 ≤ d3 ∧ d3 ≤ 65535) (hl : l.length ≤ 12) (hp : pmE id tag l r v x t u = 0) (hq : pmE id tag l r v x (t + d1) u ≠ 0) : Calls Try.prog 8 #[.agg #[.int .i64 id, sl, .int .i64 tag], .agg #[.int .i64 r, .int .i64 v, .int .i64 x, .int .i64 t], .int .i64 u, .int .u16 d1, .int .u16 d2, .int .u16 d3] w fun e w' => e = .returned (.bool true) ∧ Below w.heap.size w w' := by
  have H := Lib.hid h
  obtain ⟨a, cap, rfl, -, hm, -⟩ := h
  unfold maxLen at hm
  have hg : decide ((l.length : Int) > 12) = false := by simp; omega
  have hg2 : decide ((12 : Int) < l.length) = false := by simp; omega
  obtain ⟨ht, hu⟩ := pmB_ask (pm_zero.1 hp).1
  have HB0 := Lib.hid (Below.refl w.heap.size w)
  go_enter Try.func8, Try.ntmps8
  have KA_1 := Lib.hid (Cs.new w (w.heap.size) #[.int .i64 id, .slice a l.length cap, .int .i64 tag] 24 (by simp))
  have HB2 : Hid (Below w.heap.size w (w.alloc (.cells #[.int .i64 id, .slice a l.length cap, .int .i64 tag] 24))) := HB0.out.alloc HB0.out.size _
  clear HB0
  have KA_3 := Lib.hid (KA_1.out.alloc (.cells #[.int .i64 r, .int .i64 v, .int .i64 x, .int .i64 t] 28))
  clear KA_1
  have KK_4 := Lib.hid (Cs.new (w.alloc (.cells #[.int .i64 id, .slice a l.length cap, .int .i64 tag] 24)) (w.heap.size + 1) #[.int .i64 r, .int .i64 v, .int .i64 x, .int .i64 t] 28 (by simp))
  have HB5 : Hid (Below w.heap.size w ((w.alloc (.cells #[.int .i64 id, .slice a l.length cap, .int .i64 tag] 24)).alloc (.cells #[.int .i64 r, .int .i64 v, .int .i64 x, .int .i64 t] 28))) := HB2.out.alloc HB2.out.size _
  clear HB2
  go_wp2_with fail
  refine (head_any _).mono ?_
  rintro e u1 ⟨rfl, b1⟩
  have KA_6 := Lib.hid (KA_3.out.step b1)
  clear KA_3
  have KK_7 := Lib.hid (KK_4.out.step b1)
  clear KK_4
  have HB8 := Lib.hid (keep2 b1 HB5.out)
  clear HB5 b1
  have xA0 : u1.cell? ⟨w.heap.size, 0, none⟩ = some (.int .i64 id) := KA_6.out.c 0 rfl
  have xA1 : u1.cell? ⟨w.heap.size, 1, none⟩ = some (.slice a l.length cap) := KA_6.out.c 1 rfl
  have xA2 : u1.cell? ⟨w.heap.size, 2, none⟩ = some (.int .i64 tag) := KA_6.out.c 2 rfl
  have zA : w.heap.size < u1.heap.size := KA_6.out.2.2
  have z2A : w.heap.size < u1.heap.size + 1 := by omega
  have xK0 : u1.cell? ⟨w.heap.size + 1, 0, none⟩ = some (.int .i64 r) := KK_7.out.c 0 rfl
  have xK1 : u1.cell? ⟨w.heap.size + 1, 1, none⟩ = some (.int .i64 v) := KK_7.out.c 1 rfl
  have xK2 : u1.cell? ⟨w.heap.size + 1, 2, none⟩ = some (.int .i64 x) := KK_7.out.c 2 rfl
  have xK3 : u1.cell? ⟨w.heap.size + 1, 3, none⟩ = some (.int .i64 t) := KK_7.out.c 3 rfl
  have zK : w.heap.size + 1 < u1.heap.size := KK_7.out.2.2
  have z2K : w.heap.size + 1 < u1.heap.size + 1 := by omega
  go_wp2_with fail
  have KA_9 := Lib.hid (KA_6.out.alloc (.cells #[.int .i64 r, .int .i64 v, .int .i64 x, .int .i64 (t + d1)] 28))
  clear KA_6
  have KK_10 := Lib.hid (KK_7.out.alloc (.cells #[.int .i64 r, .int .i64 v, .int .i64 x, .int .i64 (t + d1)] 28))
  clear KK_7
  have KB_11 := Lib.hid (Cs.new u1 (u1.heap.size) #[.int .i64 r, .int .i64 v, .int .i64 x, .int .i64 (t + d1)] 28 (by simp))
  have HB12 : Hid (Below w.heap.size w (u1.alloc (.cells #[.int .i64 r, .int .i64 v, .int .i64 x, .int .i64 (t + d1)] 28))) := HB8.out.alloc HB8.out.size _
  clear HB8
  refine (permits_any id tag r v x t u _ l _ (H.out.step HB12.out)).mono ?_
  rintro e u2 ⟨rfl, b2⟩
  clear xA0 xA1 xA2 zA z2A xK0 xK1 xK2 xK3 zK z2K
  have KA_13 := Lib.hid (KA_9.out.step b2)
  clear KA_9
  have KK_14 := Lib.hid (KK_10.out.step b2)
  clear KK_10
  have KB_15 := Lib.hid (KB_11.out.step b2)
  clear KB_11
  have HB16 := Lib.hid (keep2 b2 HB12.out)
  clear HB12 b2
  rw [hp]
  have xA0 : u2.cell? ⟨w.heap.size, 0, none⟩ = some (.int .i64 id) := KA_13.out.c 0 rfl
  have xA1 : u2.cell? ⟨w.heap.size, 1, none⟩ = some (.slice a l.length cap) := KA_13.out.c 1 rfl
  have xA2 : u2.cell? ⟨w.heap.size, 2, none⟩ = some (.int .i64 tag) := KA_13.out.c 2 rfl
  have zA : w.heap.size < u2.heap.size := KA_13.out.2.2
  have z2A : w.heap.size < u2.heap.size + 1 := by omega
  have xB0 : u2.cell? ⟨u1.heap.size, 0, none⟩ = some (.int .i64 r) := KB_15.out.c 0 rfl
  have xB1 : u2.cell? ⟨u1.heap.size, 1, none⟩ = some (.int .i64 v) := KB_15.out.c 1 rfl
  have xB2 : u2.cell? ⟨u1.heap.size, 2, none⟩ = some (.int .i64 x) := KB_15.out.c 2 rfl
  have xB3 : u2.cell? ⟨u1.heap.size, 3, none⟩ = some (.int .i64 (t + d1)) := KB_15.out.c 3 rfl
  have zB : u1.heap.size < u2.heap.size := KB_15.out.2.2
  have z2B : u1.heap.size < u2.heap.size + 1 := by omega
  go_wp2_with fail
  refine (permits_any id tag r v x (t + d1) u _ l _ (H.out.step HB16.out)).mono ?_
  rintro e u3 ⟨rfl, b3⟩
  clear xA0 xA1 xA2 zA z2A xB0 xB1 xB2 xB3 zB z2B
  have KA_17 := Lib.hid (KA_13.out.step b3)
  clear KA_13
  have KK_18 := Lib.hid (KK_14.out.step b3)
  clear KK_14
  have KB_19 := Lib.hid (KB_15.out.step b3)
  clear KB_15
  have HB20 := Lib.hid (keep2 b3 HB16.out)
  clear HB16 b3
  obtain ⟨er, her⟩ : ∃ er, pmE id tag l r v x (t + d1) u = er := ⟨_, rfl⟩
  rw [her]
  rw [her] at hq
  have h0 := hq
  clear her
  have q1 : (er != 0) = true := by simpa using h0
  have q2 : (er == 0) = false := by simpa using h0
  have q3 : decide (er = 0) = false := by simpa using h0
  go_wp2
  go_ret
  exact ⟨rfl, (by repeat (first | with_reducible exact HB20.out | with_reducible exact Below.refl _ _ | ((with_reducible refine Below.setCell ?_ ?_ _); rotate_left; focus (first | (simp; done) | (simp; omega) | omega)) | ((with_reducible refine Below.alloc ?_ ?_ _); rotate_left; focus (first | (simp; done) | (simp; omega) | omega)) | with_reducible refine Below.trans ?_ (below_drewN' _ _ _) | with_reducible refine Below.trans ?_ (below_drew _ _)))⟩
set_option maxRecDepth 100000 in
set_option maxHeartbeats 4000000 in
theorem times_ok (id tag : Int) (sl : Value) (l : List Cv) (r v x t u d1 d2 d3 : Int) (w : World) (h : CvsAt w sl l) (b1 : 0 ≤ d1 ∧ d1 ≤ 65535) (b2 : 0 ≤ d2 ∧ d2 ≤ 65535) (b3 : 0 ≤ d3 ∧ d3 ≤ 65535) (hl : l.length ≤ 12) (hp : pmE id tag l r v x t u = 0) (hq : pmE id tag l r v x (t + d1) u = 0) : Calls Try.prog 8 #[.agg #[.int .i64 id, sl, .int .i64 tag], .agg #[.int .i64 r, .int .i64 v, .int .i64 x, .int .i64 t], .int .i64 u, .int .u16 d1, .int .u16 d2, .int .u16 d3] w fun e w' => e = .returned (.bool true) ∧ Below w.heap.size w w' := by
  have H := Lib.hid h
  obtain ⟨a, cap, rfl, -, hm, -⟩ := h
  unfold maxLen at hm
  have hg : decide ((l.length : Int) > 12) = false := by simp; omega
  have hg2 : decide ((12 : Int) < l.length) = false := by simp; omega
  obtain ⟨ht, hu⟩ := pmB_ask (pm_zero.1 hp).1
  have HB0 := Lib.hid (Below.refl w.heap.size w)
  go_enter Try.func8, Try.ntmps8
  have KA_1 := Lib.hid (Cs.new w (w.heap.size) #[.int .i64 id, .slice a l.length cap, .int .i64 tag] 24 (by simp))
  have HB2 : Hid (Below w.heap.size w (w.alloc (.cells #[.int .i64 id, .slice a l.length cap, .int .i64 tag] 24))) := HB0.out.alloc HB0.out.size _
  clear HB0
  have KA_3 := Lib.hid (KA_1.out.alloc (.cells #[.int .i64 r, .int .i64 v, .int .i64 x, .int .i64 t] 28))
  clear KA_1
  have KK_4 := Lib.hid (Cs.new (w.alloc (.cells #[.int .i64 id, .slice a l.length cap, .int .i64 tag] 24)) (w.heap.size + 1) #[.int .i64 r, .int .i64 v, .int .i64 x, .int .i64 t] 28 (by simp))
  have HB5 : Hid (Below w.heap.size w ((w.alloc (.cells #[.int .i64 id, .slice a l.length cap, .int .i64 tag] 24)).alloc (.cells #[.int .i64 r, .int .i64 v, .int .i64 x, .int .i64 t] 28))) := HB2.out.alloc HB2.out.size _
  clear HB2
  go_wp2_with fail
  refine (head_any _).mono ?_
  rintro e u1 ⟨rfl, b1⟩
  have KA_6 := Lib.hid (KA_3.out.step b1)
  clear KA_3
  have KK_7 := Lib.hid (KK_4.out.step b1)
  clear KK_4
  have HB8 := Lib.hid (keep2 b1 HB5.out)
  clear HB5 b1
  have xA0 : u1.cell? ⟨w.heap.size, 0, none⟩ = some (.int .i64 id) := KA_6.out.c 0 rfl
  have xA1 : u1.cell? ⟨w.heap.size, 1, none⟩ = some (.slice a l.length cap) := KA_6.out.c 1 rfl
  have xA2 : u1.cell? ⟨w.heap.size, 2, none⟩ = some (.int .i64 tag) := KA_6.out.c 2 rfl
  have zA : w.heap.size < u1.heap.size := KA_6.out.2.2
  have z2A : w.heap.size < u1.heap.size + 1 := by omega
  have xK0 : u1.cell? ⟨w.heap.size + 1, 0, none⟩ = some (.int .i64 r) := KK_7.out.c 0 rfl
  have xK1 : u1.cell? ⟨w.heap.size + 1, 1, none⟩ = some (.int .i64 v) := KK_7.out.c 1 rfl
  have xK2 : u1.cell? ⟨w.heap.size + 1, 2, none⟩ = some (.int .i64 x) := KK_7.out.c 2 rfl
  have xK3 : u1.cell? ⟨w.heap.size + 1, 3, none⟩ = some (.int .i64 t) := KK_7.out.c 3 rfl
  have zK : w.heap.size + 1 < u1.heap.size := KK_7.out.2.2
  have z2K : w.heap.size + 1 < u1.heap.size + 1 := by omega
  go_wp2_with fail
  have KA_9 := Lib.hid (KA_6.out.alloc (.cells #[.int .i64 r, .int .i64 v, .int .i64 x, .int .i64 (t + d1)] 28))
  clear KA_6
  have KK_10 := Lib.hid (KK_7.out.alloc (.cells #[.int .i64 r, .int .i64 v, .int .i64 x, .int .i64 (t + d1)] 28))
  clear KK_7
  have KB_11 := Lib.hid (Cs.new u1 (u1.heap.size) #[.int .i64 r, .int .i64 v, .int .i64 x, .int .i64 (t + d1)] 28 (by simp))
  have HB12 : Hid (Below w.heap.size w (u1.alloc (.cells #[.int .i64 r, .int .i64 v, .int .i64 x, .int .i64 (t + d1)] 28))) := HB8.out.alloc HB8.out.size _
  clear HB8
  refine (permits_any id tag r v x t u _ l _ (H.out.step HB12.out)).mono ?_
  rintro e u2 ⟨rfl, b2⟩
  clear xA0 xA1 xA2 zA z2A xK0 xK1 xK2 xK3 zK z2K
  have KA_13 := Lib.hid (KA_9.out.step b2)
  clear KA_9
  have KK_14 := Lib.hid (KK_10.out.step b2)
  clear KK_10
  have KB_15 := Lib.hid (KB_11.out.step b2)
  clear KB_11
  have HB16 := Lib.hid (keep2 b2 HB12.out)
  clear HB12 b2
  rw [hp]
  have xA0 : u2.cell? ⟨w.heap.size, 0, none⟩ = some (.int .i64 id) := KA_13.out.c 0 rfl
  have xA1 : u2.cell? ⟨w.heap.size, 1, none⟩ = some (.slice a l.length cap) := KA_13.out.c 1 rfl
  have xA2 : u2.cell? ⟨w.heap.size, 2, none⟩ = some (.int .i64 tag) := KA_13.out.c 2 rfl
  have zA : w.heap.size < u2.heap.size := KA_13.out.2.2
  have z2A : w.heap.size < u2.heap.size + 1 := by omega
  have xB0 : u2.cell? ⟨u1.heap.size, 0, none⟩ = some (.int .i64 r) := KB_15.out.c 0 rfl
  have xB1 : u2.cell? ⟨u1.heap.size, 1, none⟩ = some (.int .i64 v) := KB_15.out.c 1 rfl
  have xB2 : u2.cell? ⟨u1.heap.size, 2, none⟩ = some (.int .i64 x) := KB_15.out.c 2 rfl
  have xB3 : u2.cell? ⟨u1.heap.size, 3, none⟩ = some (.int .i64 (t + d1)) := KB_15.out.c 3 rfl
  have zB : u1.heap.size < u2.heap.size := KB_15.out.2.2
  have z2B : u1.heap.size < u2.heap.size + 1 := by omega
  go_wp2_with fail
  refine (permits_any id tag r v x (t + d1) u _ l _ (H.out.step HB16.out)).mono ?_
  rintro e u3 ⟨rfl, b3⟩
  clear xA0 xA1 xA2 zA z2A xB0 xB1 xB2 xB3 zB z2B
  have KA_17 := Lib.hid (KA_13.out.step b3)
  clear KA_13
  have KK_18 := Lib.hid (KK_14.out.step b3)
  clear KK_14
  have KB_19 := Lib.hid (KB_15.out.step b3)
  clear KB_15
  have HB20 := Lib.hid (keep2 b3 HB16.out)
  clear HB16 b3
  rw [hq]
  have xA0 : u3.cell? ⟨w.heap.size, 0, none⟩ = some (.int .i64 id) := KA_17.out.c 0 rfl
  have xA1 : u3.cell? ⟨w.heap.size, 1, none⟩ = some (.slice a l.length cap) := KA_17.out.c 1 rfl
  have xA2 : u3.cell? ⟨w.heap.size, 2, none⟩ = some (.int .i64 tag) := KA_17.out.c 2 rfl
  have zA : w.heap.size < u3.heap.size := KA_17.out.2.2
  have z2A : w.heap.size < u3.heap.size + 1 := by omega
  have xK0 : u3.cell? ⟨w.heap.size + 1, 0, none⟩ = some (.int .i64 r) := KK_18.out.c 0 rfl
  have xK1 : u3.cell? ⟨w.heap.size + 1, 1, none⟩ = some (.int .i64 v) := KK_18.out.c 1 rfl
  have xK2 : u3.cell? ⟨w.heap.size + 1, 2, none⟩ = some (.int .i64 x) := KK_18.out.c 2 rfl
  have xK3 : u3.cell? ⟨w.heap.size + 1, 3, none⟩ = some (.int .i64 t) := KK_18.out.c 3 rfl
  have zK : w.heap.size + 1 < u3.heap.size := KK_18.out.2.2
  have z2K : w.heap.size + 1 < u3.heap.size + 1 := by omega
  obtain ⟨mm, hmm, hm1⟩ : ∃ mm, (if d1 < d2 then d1 else d2) = mm ∧ (0 ≤ mm ∧ mm ≤ d1) := ⟨_, rfl, by split <;> omega⟩
  go_wp2_with fail
  all_goals
    have KA_21 := Lib.hid (KA_17.out.alloc (.cells #[.int .i64 r, .int .i64 v, .int .i64 x, .int .i64 (t + mm)] 28))
    clear KA_17
    have KK_22 := Lib.hid (KK_18.out.alloc (.cells #[.int .i64 r, .int .i64 v, .int .i64 x, .int .i64 (t + mm)] 28))
    clear KK_18
    have KB_23 := Lib.hid (KB_19.out.alloc (.cells #[.int .i64 r, .int .i64 v, .int .i64 x, .int .i64 (t + mm)] 28))
    clear KB_19
    have KM_24 := Lib.hid (Cs.new u3 (u3.heap.size) #[.int .i64 r, .int .i64 v, .int .i64 x, .int .i64 (t + mm)] 28 (by simp))
    have HB25 : Hid (Below w.heap.size w (u3.alloc (.cells #[.int .i64 r, .int .i64 v, .int .i64 x, .int .i64 (t + mm)] 28))) := HB20.out.alloc HB20.out.size _
    clear HB20
    refine (permits_any id tag r v x (t + mm) _ _ l _ (H.out.step HB25.out)).mono ?_
    rintro e u4 ⟨rfl, b4⟩
    clear xA0 xA1 xA2 zA z2A xK0 xK1 xK2 xK3 zK z2K
    have KA_26 := Lib.hid (KA_21.out.step b4)
    clear KA_21
    have KK_27 := Lib.hid (KK_22.out.step b4)
    clear KK_22
    have KB_28 := Lib.hid (KB_23.out.step b4)
    clear KB_23
    have KM_29 := Lib.hid (KM_24.out.step b4)
    clear KM_24
    have HB30 := Lib.hid (keep2 b4 HB25.out)
    clear HB25 b4
    rw [pm_mid hp hq hm1 (by omega)]
    go_wp2
    go_ret
    exact ⟨rfl, (by repeat (first | with_reducible exact HB30.out | with_reducible exact Below.refl _ _ | ((with_reducible refine Below.setCell ?_ ?_ _); rotate_left; focus (first | (simp; done) | (simp; omega) | omega)) | ((with_reducible refine Below.alloc ?_ ?_ _); rotate_left; focus (first | (simp; done) | (simp; omega) | omega)) | with_reducible refine Below.trans ?_ (below_drewN' _ _ _) | with_reducible refine Below.trans ?_ (below_drew _ _)))⟩
theorem times_any (id tag : Int) (sl : Value) (l : List Cv) (r v x t u d1 d2 d3 : Int) (w : World) (h : CvsAt w sl l) (b1 : 0 ≤ d1 ∧ d1 ≤ 65535) (b2 : 0 ≤ d2 ∧ d2 ≤ 65535) (b3 : 0 ≤ d3 ∧ d3 ≤ 65535) : Calls Try.prog 8 #[.agg #[.int .i64 id, sl, .int .i64 tag], .agg #[.int .i64 r, .int .i64 v, .int .i64 x, .int .i64 t], .int .i64 u, .int .u16 d1, .int .u16 d2, .int .u16 d3] w fun e w' => e = .returned (.bool true) ∧ Below w.heap.size w w' := by
  by_cases hl : l.length ≤ 12
  · by_cases hp : pmE id tag l r v x t u = 0
    · by_cases hq : pmE id tag l r v x (t + d1) u = 0
      · exact times_ok id tag sl l r v x t u d1 d2 d3 w h b1 b2 b3 hl hp hq
      · exact times_two id tag sl l r v x t u d1 d2 d3 w h b1 b2 b3 hl hp hq
    · exact times_one id tag sl l r v x t u d1 d2 d3 w h b1 b2 b3 hl hp
  · exact times_len id tag sl l r v x t u d1 d2 d3 w h b1 b2 b3 (by omega)
end Go.Proofs.Ytdifgdnndmikaaa
