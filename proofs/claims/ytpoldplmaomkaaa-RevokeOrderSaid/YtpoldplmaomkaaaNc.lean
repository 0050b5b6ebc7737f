/- Capabilities: the reference's 'Genuine', 'Chain' and 'Check'. -/
import Derived.Test.YtpoldplmaomkaaaNb
namespace Go.Proofs.Ytpoldplmaomkaaa
open Go.RowKit

theorem EL.ints {w : World} {sv : Value} {l : List Int} (h : EL w sv l) : IntsAt w sv l := by
  obtain ⟨g, n, c, cur, -, -, h3⟩ := h
  exact h3
set_option maxRecDepth 100000 in
set_option maxHeartbeats 4000000 in
theorem rgenuine_key (key id tag : Int) (sl : Value) (l : List Cv) (w : World) (h : CvsAt w sl l) (hk : inr key 0 2147483646 = false) : Calls Try.prog 50 #[.int .i64 key, .agg #[.int .i64 id, sl, .int .i64 tag]] w fun e w' => e = .returned (.bool false) ∧ Below w.heap.size w w' := by
  have H := Lib.hid h
  obtain ⟨a, cap, rfl, -, -, -⟩ := h
  have HK := Lib.hid hk
  clear hk
  have HB0 := Lib.hid (Below.refl w.heap.size w)
  go_enter Try.func50, Try.ntmps50
  have KA_1 := Lib.hid (Cs.new w (w.heap.size) #[.int .i64 id, .slice a l.length cap, .int .i64 tag] 27 (by simp))
  have HB2 : Hid (Below w.heap.size w (w.alloc (.cells #[.int .i64 id, .slice a l.length cap, .int .i64 tag] 27))) := HB0.out.alloc HB0.out.size _
  clear HB0
  have xA0 : (w.alloc (.cells #[.int .i64 id, .slice a l.length cap, .int .i64 tag] 27)).cell? ⟨w.heap.size, 0, none⟩ = some (.int .i64 id) := KA_1.out.c 0 rfl
  have xA1 : (w.alloc (.cells #[.int .i64 id, .slice a l.length cap, .int .i64 tag] 27)).cell? ⟨w.heap.size, 1, none⟩ = some (.slice a l.length cap) := KA_1.out.c 1 rfl
  have xA2 : (w.alloc (.cells #[.int .i64 id, .slice a l.length cap, .int .i64 tag] 27)).cell? ⟨w.heap.size, 2, none⟩ = some (.int .i64 tag) := KA_1.out.c 2 rfl
  have zA : w.heap.size < (w.alloc (.cells #[.int .i64 id, .slice a l.length cap, .int .i64 tag] 27)).heap.size := KA_1.out.2.2
  have z2A : w.heap.size < (w.alloc (.cells #[.int .i64 id, .slice a l.length cap, .int .i64 tag] 27)).heap.size + 1 := by omega
  go_wp2_with fail
  refine (rkey_q key _ HK.out _).mono ?_
  rintro e w' ⟨rfl, rfl⟩
  go_wp2
  go_ret
  exact ⟨rfl, HB2.out⟩
set_option maxRecDepth 100000 in
set_option maxHeartbeats 4000000 in
theorem rgenuine_cap (key id tag : Int) (sl : Value) (l : List Cv) (w : World) (h : CvsAt w sl l) (hk : inr key 0 2147483646 = true) (hc : capB id tag l = false) : Calls Try.prog 50 #[.int .i64 key, .agg #[.int .i64 id, sl, .int .i64 tag]] w fun e w' => e = .returned (.bool false) ∧ Below w.heap.size w w' := by
  have H := Lib.hid h
  obtain ⟨a, cap, rfl, -, -, -⟩ := h
  have HK := Lib.hid hk
  clear hk
  have HC := Lib.hid hc
  clear hc
  have HB0 := Lib.hid (Below.refl w.heap.size w)
  go_enter Try.func50, Try.ntmps50
  have KA_1 := Lib.hid (Cs.new w (w.heap.size) #[.int .i64 id, .slice a l.length cap, .int .i64 tag] 27 (by simp))
  have HB2 : Hid (Below w.heap.size w (w.alloc (.cells #[.int .i64 id, .slice a l.length cap, .int .i64 tag] 27))) := HB0.out.alloc HB0.out.size _
  clear HB0
  have xA0 : (w.alloc (.cells #[.int .i64 id, .slice a l.length cap, .int .i64 tag] 27)).cell? ⟨w.heap.size, 0, none⟩ = some (.int .i64 id) := KA_1.out.c 0 rfl
  have xA1 : (w.alloc (.cells #[.int .i64 id, .slice a l.length cap, .int .i64 tag] 27)).cell? ⟨w.heap.size, 1, none⟩ = some (.slice a l.length cap) := KA_1.out.c 1 rfl
  have xA2 : (w.alloc (.cells #[.int .i64 id, .slice a l.length cap, .int .i64 tag] 27)).cell? ⟨w.heap.size, 2, none⟩ = some (.int .i64 tag) := KA_1.out.c 2 rfl
  have zA : w.heap.size < (w.alloc (.cells #[.int .i64 id, .slice a l.length cap, .int .i64 tag] 27)).heap.size := KA_1.out.2.2
  have z2A : w.heap.size < (w.alloc (.cells #[.int .i64 id, .slice a l.length cap, .int .i64 tag] 27)).heap.size + 1 := by omega
  go_wp2_with fail
  refine (rkey_q key _ HK.out _).mono ?_
  rintro e w' ⟨rfl, rfl⟩
  go_wp2_with fail
  refine (rcap_any id tag _ l _ (H.out.step HB2.out)).mono ?_
  rintro e u1 ⟨rfl, b1⟩
  clear xA0 xA1 xA2 zA z2A
  have KA_3 := Lib.hid (KA_1.out.step b1)
  clear KA_1
  have HB4 := Lib.hid (keep2 b1 HB2.out)
  clear HB2 b1
  rw [HC.out]
  go_wp2
  go_ret
  exact ⟨rfl, HB4.out⟩
set_option maxRecDepth 100000 in
set_option maxHeartbeats 4000000 in
theorem rgenuine_ok (key id tag : Int) (sl : Value) (l : List Cv) (w : World) (h : CvsAt w sl l) (hk : inr key 0 2147483646 = true) (hc : capB id tag l = true) : Calls Try.prog 50 #[.int .i64 key, .agg #[.int .i64 id, sl, .int .i64 tag]] w fun e w' => e = .returned (.bool (decide (tk (tg0 key id) l l.length = tag))) ∧ Below w.heap.size w w' := by
  have H := Lib.hid h
  obtain ⟨a, cap, rfl, -, -, -⟩ := h
  have HK := Lib.hid hk
  clear hk
  have hl12 := cap_len hc
  have HC := Lib.hid hc
  clear hc
  have HB0 := Lib.hid (Below.refl w.heap.size w)
  go_enter Try.func50, Try.ntmps50
  have KA_1 := Lib.hid (Cs.new w (w.heap.size) #[.int .i64 id, .slice a l.length cap, .int .i64 tag] 27 (by simp))
  have HB2 : Hid (Below w.heap.size w (w.alloc (.cells #[.int .i64 id, .slice a l.length cap, .int .i64 tag] 27))) := HB0.out.alloc HB0.out.size _
  clear HB0
  have xA0 : (w.alloc (.cells #[.int .i64 id, .slice a l.length cap, .int .i64 tag] 27)).cell? ⟨w.heap.size, 0, none⟩ = some (.int .i64 id) := KA_1.out.c 0 rfl
  have xA1 : (w.alloc (.cells #[.int .i64 id, .slice a l.length cap, .int .i64 tag] 27)).cell? ⟨w.heap.size, 1, none⟩ = some (.slice a l.length cap) := KA_1.out.c 1 rfl
  have xA2 : (w.alloc (.cells #[.int .i64 id, .slice a l.length cap, .int .i64 tag] 27)).cell? ⟨w.heap.size, 2, none⟩ = some (.int .i64 tag) := KA_1.out.c 2 rfl
  have zA : w.heap.size < (w.alloc (.cells #[.int .i64 id, .slice a l.length cap, .int .i64 tag] 27)).heap.size := KA_1.out.2.2
  have z2A : w.heap.size < (w.alloc (.cells #[.int .i64 id, .slice a l.length cap, .int .i64 tag] 27)).heap.size + 1 := by omega
  go_wp2_with fail
  refine (rkey_q key _ HK.out _).mono ?_
  rintro e w' ⟨rfl, rfl⟩
  go_wp2_with fail
  refine (rcap_any id tag _ l _ (H.out.step HB2.out)).mono ?_
  rintro e u1 ⟨rfl, b1⟩
  clear xA0 xA1 xA2 zA z2A
  have KA_3 := Lib.hid (KA_1.out.step b1)
  clear KA_1
  have HB4 := Lib.hid (keep2 b1 HB2.out)
  clear HB2 b1
  rw [HC.out]
  have xA0 : u1.cell? ⟨w.heap.size, 0, none⟩ = some (.int .i64 id) := KA_3.out.c 0 rfl
  have xA1 : u1.cell? ⟨w.heap.size, 1, none⟩ = some (.slice a l.length cap) := KA_3.out.c 1 rfl
  have xA2 : u1.cell? ⟨w.heap.size, 2, none⟩ = some (.int .i64 tag) := KA_3.out.c 2 rfl
  have zA : w.heap.size < u1.heap.size := KA_3.out.2.2
  have z2A : w.heap.size < u1.heap.size + 1 := by omega
  go_wp2_with fail
  refine (rtags_any key id tag _ l _ (H.out.step HB4.out) (by omega)).mono ?_
  rintro e u30 ⟨u, z, rfl, htg, b30⟩
  clear xA0 xA1 xA2 zA z2A
  have KA_5 := Lib.hid (KA_3.out.step b30)
  clear KA_3
  have HB6 := Lib.hid (keep2 b30 HB4.out)
  clear HB4 b30
  obtain ⟨zs, hr, -, -⟩ := htg
  obtain ⟨gt, tc, rfl, hgt, hx⟩ := row_cell hr (by omega)
  have x0 := hx l.length _ (tkL_get key id l (l.length + 1) l.length (by omega))
  clear hx hr
  obtain ⟨T, hT⟩ : ∃ T, tk (tg0 key id) l l.length = T := ⟨_, rfl⟩
  rw [hT] at x0
  replace hT := Lib.hid hT
  have e1 : IntKind.i64.wrap (((l.length + 1 : Nat) : Int) - 1) = (l.length : Int) := by rw [show ((l.length + 1 : Nat) : Int) - 1 = l.length by omega]; exact IntWalk.i64_in _ (by omega)
  have e2 : ((l.length : Int) + 1 - 1) = l.length := by omega
  have e3 : (l.length : Int) < (l.length : Int) + 1 := by omega
  have xA0 : u30.cell? ⟨w.heap.size, 0, none⟩ = some (.int .i64 id) := KA_5.out.c 0 rfl
  have xA1 : u30.cell? ⟨w.heap.size, 1, none⟩ = some (.slice a l.length cap) := KA_5.out.c 1 rfl
  have xA2 : u30.cell? ⟨w.heap.size, 2, none⟩ = some (.int .i64 tag) := KA_5.out.c 2 rfl
  have zA : w.heap.size < u30.heap.size := KA_5.out.2.2
  have z2A : w.heap.size < u30.heap.size + 1 := by omega
  go_wp2_with fail
  go_quiet (fail)
  go_wp2
  go_ret
  exact ⟨ret_bool (by rw [hT.out]; first | rfl | simp | (rw [Bool.eq_iff_iff]; simp)), (by repeat (first | with_reducible exact HB6.out | with_reducible exact Below.refl _ _ | ((with_reducible refine Below.setCell ?_ ?_ _); rotate_left; focus (first | (simp; done) | (simp; omega) | omega)) | ((with_reducible refine Below.alloc ?_ ?_ _); rotate_left; focus (first | (simp; done) | (simp; omega) | omega)) | with_reducible refine Below.trans ?_ (below_drewN' _ _ _) | with_reducible refine Below.trans ?_ (below_drew _ _)))⟩
theorem rgenuine_any (key id tag : Int) (sl : Value) (l : List Cv) (w : World) (h : CvsAt w sl l) : Calls Try.prog 50 #[.int .i64 key, .agg #[.int .i64 id, sl, .int .i64 tag]] w fun e w' => e = .returned (.bool (gnB key id tag l)) ∧ Below w.heap.size w w' := by
  cases h1 : inr key 0 2147483646
  · have : gnB key id tag l = false := by unfold gnB; rw [h1]; rfl
    rw [this]; exact rgenuine_key key id tag sl l w h h1
  · cases h2 : capB id tag l
    · have : gnB key id tag l = false := by unfold gnB; rw [h2]; simp
      rw [this]; exact rgenuine_cap key id tag sl l w h h1 h2
    · have : gnB key id tag l = decide (tk (tg0 key id) l l.length = tag) := by unfold gnB; rw [h1, h2]; rfl
      rw [this]; exact rgenuine_ok key id tag sl l w h h1 h2
set_option maxRecDepth 100000 in
set_option maxHeartbeats 4000000 in
theorem rchain_no (key id tag : Int) (sl : Value) (l : List Cv) (w : World) (h : CvsAt w sl l) (hg : gnB key id tag l = false) : Calls Try.prog 36 #[.int .i64 key, .agg #[.int .i64 id, sl, .int .i64 tag]] w fun e w' => ∃ u, e = .returned u ∧ IntsAt w' u (chB key id tag l) ∧ Below w.heap.size w w' := by
  have H := Lib.hid h
  obtain ⟨a, cap, rfl, -, -, -⟩ := h
  have HG := Lib.hid hg
  have HR := Lib.hid (show chB key id tag l = [] by unfold chB; rw [hg]; rfl)
  clear hg
  have HB0 := Lib.hid (Below.refl w.heap.size w)
  go_enter Try.func36, Try.ntmps36
  have KA_1 := Lib.hid (Cs.new w (w.heap.size) #[.int .i64 id, .slice a l.length cap, .int .i64 tag] 27 (by simp))
  have HB2 : Hid (Below w.heap.size w (w.alloc (.cells #[.int .i64 id, .slice a l.length cap, .int .i64 tag] 27))) := HB0.out.alloc HB0.out.size _
  clear HB0
  have xA0 : (w.alloc (.cells #[.int .i64 id, .slice a l.length cap, .int .i64 tag] 27)).cell? ⟨w.heap.size, 0, none⟩ = some (.int .i64 id) := KA_1.out.c 0 rfl
  have xA1 : (w.alloc (.cells #[.int .i64 id, .slice a l.length cap, .int .i64 tag] 27)).cell? ⟨w.heap.size, 1, none⟩ = some (.slice a l.length cap) := KA_1.out.c 1 rfl
  have xA2 : (w.alloc (.cells #[.int .i64 id, .slice a l.length cap, .int .i64 tag] 27)).cell? ⟨w.heap.size, 2, none⟩ = some (.int .i64 tag) := KA_1.out.c 2 rfl
  have zA : w.heap.size < (w.alloc (.cells #[.int .i64 id, .slice a l.length cap, .int .i64 tag] 27)).heap.size := KA_1.out.2.2
  have z2A : w.heap.size < (w.alloc (.cells #[.int .i64 id, .slice a l.length cap, .int .i64 tag] 27)).heap.size + 1 := by omega
  go_wp2_with fail
  refine (rgenuine_any key id tag _ l _ (H.out.step HB2.out)).mono ?_
  rintro e u1 ⟨rfl, b1⟩
  clear xA0 xA1 xA2 zA z2A
  have KA_3 := Lib.hid (KA_1.out.step b1)
  clear KA_1
  have HB4 := Lib.hid (keep2 b1 HB2.out)
  clear HB2 b1
  rw [HG.out]
  go_wp2
  go_ret
  exact ⟨_, rfl, by rw [HR.out]; exact ints_nil _, HB4.out⟩
set_option maxRecDepth 100000 in
set_option maxHeartbeats 4000000 in
theorem rchain_ok (key id tag : Int) (sl : Value) (l : List Cv) (w : World) (h : CvsAt w sl l) (hg : gnB key id tag l = true) : Calls Try.prog 36 #[.int .i64 key, .agg #[.int .i64 id, sl, .int .i64 tag]] w fun e w' => ∃ u, e = .returned u ∧ IntsAt w' u (chB key id tag l) ∧ Below w.heap.size w w' := by
  have H := Lib.hid h
  obtain ⟨a, cap, rfl, -, -, -⟩ := h
  have HG := Lib.hid hg
  have hl12 := cap_len (gn_cap hg)
  have HR := Lib.hid (show chB key id tag l = tkL key id l (l.length + 1) by unfold chB; rw [hg]; rfl)
  clear hg
  have HB0 := Lib.hid (Below.refl w.heap.size w)
  go_enter Try.func36, Try.ntmps36
  have KA_1 := Lib.hid (Cs.new w (w.heap.size) #[.int .i64 id, .slice a l.length cap, .int .i64 tag] 27 (by simp))
  have HB2 : Hid (Below w.heap.size w (w.alloc (.cells #[.int .i64 id, .slice a l.length cap, .int .i64 tag] 27))) := HB0.out.alloc HB0.out.size _
  clear HB0
  have xA0 : (w.alloc (.cells #[.int .i64 id, .slice a l.length cap, .int .i64 tag] 27)).cell? ⟨w.heap.size, 0, none⟩ = some (.int .i64 id) := KA_1.out.c 0 rfl
  have xA1 : (w.alloc (.cells #[.int .i64 id, .slice a l.length cap, .int .i64 tag] 27)).cell? ⟨w.heap.size, 1, none⟩ = some (.slice a l.length cap) := KA_1.out.c 1 rfl
  have xA2 : (w.alloc (.cells #[.int .i64 id, .slice a l.length cap, .int .i64 tag] 27)).cell? ⟨w.heap.size, 2, none⟩ = some (.int .i64 tag) := KA_1.out.c 2 rfl
  have zA : w.heap.size < (w.alloc (.cells #[.int .i64 id, .slice a l.length cap, .int .i64 tag] 27)).heap.size := KA_1.out.2.2
  have z2A : w.heap.size < (w.alloc (.cells #[.int .i64 id, .slice a l.length cap, .int .i64 tag] 27)).heap.size + 1 := by omega
  go_wp2_with fail
  refine (rgenuine_any key id tag _ l _ (H.out.step HB2.out)).mono ?_
  rintro e u1 ⟨rfl, b1⟩
  clear xA0 xA1 xA2 zA z2A
  have KA_3 := Lib.hid (KA_1.out.step b1)
  clear KA_1
  have HB4 := Lib.hid (keep2 b1 HB2.out)
  clear HB2 b1
  rw [HG.out]
  have xA0 : u1.cell? ⟨w.heap.size, 0, none⟩ = some (.int .i64 id) := KA_3.out.c 0 rfl
  have xA1 : u1.cell? ⟨w.heap.size, 1, none⟩ = some (.slice a l.length cap) := KA_3.out.c 1 rfl
  have xA2 : u1.cell? ⟨w.heap.size, 2, none⟩ = some (.int .i64 tag) := KA_3.out.c 2 rfl
  have zA : w.heap.size < u1.heap.size := KA_3.out.2.2
  have z2A : w.heap.size < u1.heap.size + 1 := by omega
  go_wp2_with fail
  refine (rtags_any key id tag _ l _ (H.out.step HB4.out) (by omega)).mono ?_
  rintro e u30 ⟨u, z, rfl, htg, b30⟩
  clear xA0 xA1 xA2 zA z2A
  have KA_5 := Lib.hid (KA_3.out.step b30)
  clear KA_3
  have HB6 := Lib.hid (keep2 b30 HB4.out)
  clear HB4 b30
  obtain ⟨zs, hr, -, -⟩ := htg
  have HI := Lib.hid (show IntsAt u30 u (tkL key id l (l.length + 1)) from (el_of_row hr (by unfold tkL; simp) (by omega)).1.ints)
  clear hr
  go_wp2
  go_ret
  exact ⟨_, rfl, by rw [HR.out]; exact HI.out, HB6.out⟩
theorem rchain_any (key id tag : Int) (sl : Value) (l : List Cv) (w : World) (h : CvsAt w sl l) : Calls Try.prog 36 #[.int .i64 key, .agg #[.int .i64 id, sl, .int .i64 tag]] w fun e w' => ∃ u, e = .returned u ∧ IntsAt w' u (chB key id tag l) ∧ Below w.heap.size w w' := by
  cases h1 : gnB key id tag l
  · exact rchain_no key id tag sl l w h h1
  · exact rchain_ok key id tag sl l w h h1
set_option maxRecDepth 100000 in
set_option maxHeartbeats 4000000 in
theorem rcheck_key (key id tag r v x t u er : Int) (sl : Value) (l : List Cv) (w : World) (h : CvsAt w sl l) (he : pmE id tag l r v x t u = er) (hk : inr key 0 2147483646 = false) : Calls Try.prog 35 #[.int .i64 key, .agg #[.int .i64 id, sl, .int .i64 tag], .agg #[.int .i64 r, .int .i64 v, .int .i64 x, .int .i64 t], .int .i64 u] w fun e w' => e = .returned (.int .i64 1) ∧ Below w.heap.size w w' := by
  have H := Lib.hid h
  have HE := Lib.hid he
  obtain ⟨a, cap, rfl, -, -, -⟩ := h
  clear he
  have HK := Lib.hid hk
  clear hk
  have HB0 := Lib.hid (Below.refl w.heap.size w)
  go_enter Try.func35, Try.ntmps35
  have KA_1 := Lib.hid (Cs.new w (w.heap.size) #[.int .i64 id, .slice a l.length cap, .int .i64 tag] 27 (by simp))
  have HB2 : Hid (Below w.heap.size w (w.alloc (.cells #[.int .i64 id, .slice a l.length cap, .int .i64 tag] 27))) := HB0.out.alloc HB0.out.size _
  clear HB0
  have KA_3 := Lib.hid (KA_1.out.alloc (.cells #[.int .i64 r, .int .i64 v, .int .i64 x, .int .i64 t] 29))
  clear KA_1
  have KK_4 := Lib.hid (Cs.new (w.alloc (.cells #[.int .i64 id, .slice a l.length cap, .int .i64 tag] 27)) (w.heap.size + 1) #[.int .i64 r, .int .i64 v, .int .i64 x, .int .i64 t] 29 (by simp))
  have HB5 : Hid (Below w.heap.size w ((w.alloc (.cells #[.int .i64 id, .slice a l.length cap, .int .i64 tag] 27)).alloc (.cells #[.int .i64 r, .int .i64 v, .int .i64 x, .int .i64 t] 29))) := HB2.out.alloc HB2.out.size _
  clear HB2
  have xA0 : ((w.alloc (.cells #[.int .i64 id, .slice a l.length cap, .int .i64 tag] 27)).alloc (.cells #[.int .i64 r, .int .i64 v, .int .i64 x, .int .i64 t] 29)).cell? ⟨w.heap.size, 0, none⟩ = some (.int .i64 id) := KA_3.out.c 0 rfl
  have xA1 : ((w.alloc (.cells #[.int .i64 id, .slice a l.length cap, .int .i64 tag] 27)).alloc (.cells #[.int .i64 r, .int .i64 v, .int .i64 x, .int .i64 t] 29)).cell? ⟨w.heap.size, 1, none⟩ = some (.slice a l.length cap) := KA_3.out.c 1 rfl
  have xA2 : ((w.alloc (.cells #[.int .i64 id, .slice a l.length cap, .int .i64 tag] 27)).alloc (.cells #[.int .i64 r, .int .i64 v, .int .i64 x, .int .i64 t] 29)).cell? ⟨w.heap.size, 2, none⟩ = some (.int .i64 tag) := KA_3.out.c 2 rfl
  have zA : w.heap.size < ((w.alloc (.cells #[.int .i64 id, .slice a l.length cap, .int .i64 tag] 27)).alloc (.cells #[.int .i64 r, .int .i64 v, .int .i64 x, .int .i64 t] 29)).heap.size := KA_3.out.2.2
  have z2A : w.heap.size < ((w.alloc (.cells #[.int .i64 id, .slice a l.length cap, .int .i64 tag] 27)).alloc (.cells #[.int .i64 r, .int .i64 v, .int .i64 x, .int .i64 t] 29)).heap.size + 1 := by omega
  have xK0 : ((w.alloc (.cells #[.int .i64 id, .slice a l.length cap, .int .i64 tag] 27)).alloc (.cells #[.int .i64 r, .int .i64 v, .int .i64 x, .int .i64 t] 29)).cell? ⟨w.heap.size + 1, 0, none⟩ = some (.int .i64 r) := KK_4.out.c 0 rfl
  have xK1 : ((w.alloc (.cells #[.int .i64 id, .slice a l.length cap, .int .i64 tag] 27)).alloc (.cells #[.int .i64 r, .int .i64 v, .int .i64 x, .int .i64 t] 29)).cell? ⟨w.heap.size + 1, 1, none⟩ = some (.int .i64 v) := KK_4.out.c 1 rfl
  have xK2 : ((w.alloc (.cells #[.int .i64 id, .slice a l.length cap, .int .i64 tag] 27)).alloc (.cells #[.int .i64 r, .int .i64 v, .int .i64 x, .int .i64 t] 29)).cell? ⟨w.heap.size + 1, 2, none⟩ = some (.int .i64 x) := KK_4.out.c 2 rfl
  have xK3 : ((w.alloc (.cells #[.int .i64 id, .slice a l.length cap, .int .i64 tag] 27)).alloc (.cells #[.int .i64 r, .int .i64 v, .int .i64 x, .int .i64 t] 29)).cell? ⟨w.heap.size + 1, 3, none⟩ = some (.int .i64 t) := KK_4.out.c 3 rfl
  have zK : w.heap.size + 1 < ((w.alloc (.cells #[.int .i64 id, .slice a l.length cap, .int .i64 tag] 27)).alloc (.cells #[.int .i64 r, .int .i64 v, .int .i64 x, .int .i64 t] 29)).heap.size := KK_4.out.2.2
  have z2K : w.heap.size + 1 < ((w.alloc (.cells #[.int .i64 id, .slice a l.length cap, .int .i64 tag] 27)).alloc (.cells #[.int .i64 r, .int .i64 v, .int .i64 x, .int .i64 t] 29)).heap.size + 1 := by omega
  go_wp2_with fail
  refine (rpermits_any id tag r v x t u _ l _ (H.out.step HB5.out)).mono ?_
  rintro e u1 ⟨rfl, b1⟩
  clear xA0 xA1 xA2 zA z2A xK0 xK1 xK2 xK3 zK z2K
  have KA_6 := Lib.hid (KA_3.out.step b1)
  clear KA_3
  have KK_7 := Lib.hid (KK_4.out.step b1)
  clear KK_4
  have HB8 := Lib.hid (keep2 b1 HB5.out)
  clear HB5 b1
  rw [HE.out]
  go_wp2_with fail
  refine (rkey_q key _ HK.out _).mono ?_
  rintro e w' ⟨rfl, rfl⟩
  go_wp2
  go_ret
  exact ⟨rfl, HB8.out⟩
set_option maxRecDepth 100000 in
set_option maxHeartbeats 4000000 in
theorem rcheck_arg (key id tag r v x t u er : Int) (sl : Value) (l : List Cv) (w : World) (h : CvsAt w sl l) (he : pmE id tag l r v x t u = er) (hk : inr key 0 2147483646 = true) (h1 : er = 1) : Calls Try.prog 35 #[.int .i64 key, .agg #[.int .i64 id, sl, .int .i64 tag], .agg #[.int .i64 r, .int .i64 v, .int .i64 x, .int .i64 t], .int .i64 u] w fun e w' => e = .returned (.int .i64 1) ∧ Below w.heap.size w w' := by
  have H := Lib.hid h
  have HE := Lib.hid he
  obtain ⟨a, cap, rfl, -, -, -⟩ := h
  clear he
  have HK := Lib.hid hk
  clear hk
  subst h1
  have HB0 := Lib.hid (Below.refl w.heap.size w)
  go_enter Try.func35, Try.ntmps35
  have KA_1 := Lib.hid (Cs.new w (w.heap.size) #[.int .i64 id, .slice a l.length cap, .int .i64 tag] 27 (by simp))
  have HB2 : Hid (Below w.heap.size w (w.alloc (.cells #[.int .i64 id, .slice a l.length cap, .int .i64 tag] 27))) := HB0.out.alloc HB0.out.size _
  clear HB0
  have KA_3 := Lib.hid (KA_1.out.alloc (.cells #[.int .i64 r, .int .i64 v, .int .i64 x, .int .i64 t] 29))
  clear KA_1
  have KK_4 := Lib.hid (Cs.new (w.alloc (.cells #[.int .i64 id, .slice a l.length cap, .int .i64 tag] 27)) (w.heap.size + 1) #[.int .i64 r, .int .i64 v, .int .i64 x, .int .i64 t] 29 (by simp))
  have HB5 : Hid (Below w.heap.size w ((w.alloc (.cells #[.int .i64 id, .slice a l.length cap, .int .i64 tag] 27)).alloc (.cells #[.int .i64 r, .int .i64 v, .int .i64 x, .int .i64 t] 29))) := HB2.out.alloc HB2.out.size _
  clear HB2
  have xA0 : ((w.alloc (.cells #[.int .i64 id, .slice a l.length cap, .int .i64 tag] 27)).alloc (.cells #[.int .i64 r, .int .i64 v, .int .i64 x, .int .i64 t] 29)).cell? ⟨w.heap.size, 0, none⟩ = some (.int .i64 id) := KA_3.out.c 0 rfl
  have xA1 : ((w.alloc (.cells #[.int .i64 id, .slice a l.length cap, .int .i64 tag] 27)).alloc (.cells #[.int .i64 r, .int .i64 v, .int .i64 x, .int .i64 t] 29)).cell? ⟨w.heap.size, 1, none⟩ = some (.slice a l.length cap) := KA_3.out.c 1 rfl
  have xA2 : ((w.alloc (.cells #[.int .i64 id, .slice a l.length cap, .int .i64 tag] 27)).alloc (.cells #[.int .i64 r, .int .i64 v, .int .i64 x, .int .i64 t] 29)).cell? ⟨w.heap.size, 2, none⟩ = some (.int .i64 tag) := KA_3.out.c 2 rfl
  have zA : w.heap.size < ((w.alloc (.cells #[.int .i64 id, .slice a l.length cap, .int .i64 tag] 27)).alloc (.cells #[.int .i64 r, .int .i64 v, .int .i64 x, .int .i64 t] 29)).heap.size := KA_3.out.2.2
  have z2A : w.heap.size < ((w.alloc (.cells #[.int .i64 id, .slice a l.length cap, .int .i64 tag] 27)).alloc (.cells #[.int .i64 r, .int .i64 v, .int .i64 x, .int .i64 t] 29)).heap.size + 1 := by omega
  have xK0 : ((w.alloc (.cells #[.int .i64 id, .slice a l.length cap, .int .i64 tag] 27)).alloc (.cells #[.int .i64 r, .int .i64 v, .int .i64 x, .int .i64 t] 29)).cell? ⟨w.heap.size + 1, 0, none⟩ = some (.int .i64 r) := KK_4.out.c 0 rfl
  have xK1 : ((w.alloc (.cells #[.int .i64 id, .slice a l.length cap, .int .i64 tag] 27)).alloc (.cells #[.int .i64 r, .int .i64 v, .int .i64 x, .int .i64 t] 29)).cell? ⟨w.heap.size + 1, 1, none⟩ = some (.int .i64 v) := KK_4.out.c 1 rfl
  have xK2 : ((w.alloc (.cells #[.int .i64 id, .slice a l.length cap, .int .i64 tag] 27)).alloc (.cells #[.int .i64 r, .int .i64 v, .int .i64 x, .int .i64 t] 29)).cell? ⟨w.heap.size + 1, 2, none⟩ = some (.int .i64 x) := KK_4.out.c 2 rfl
  have xK3 : ((w.alloc (.cells #[.int .i64 id, .slice a l.length cap, .int .i64 tag] 27)).alloc (.cells #[.int .i64 r, .int .i64 v, .int .i64 x, .int .i64 t] 29)).cell? ⟨w.heap.size + 1, 3, none⟩ = some (.int .i64 t) := KK_4.out.c 3 rfl
  have zK : w.heap.size + 1 < ((w.alloc (.cells #[.int .i64 id, .slice a l.length cap, .int .i64 tag] 27)).alloc (.cells #[.int .i64 r, .int .i64 v, .int .i64 x, .int .i64 t] 29)).heap.size := KK_4.out.2.2
  have z2K : w.heap.size + 1 < ((w.alloc (.cells #[.int .i64 id, .slice a l.length cap, .int .i64 tag] 27)).alloc (.cells #[.int .i64 r, .int .i64 v, .int .i64 x, .int .i64 t] 29)).heap.size + 1 := by omega
  go_wp2_with fail
  refine (rpermits_any id tag r v x t u _ l _ (H.out.step HB5.out)).mono ?_
  rintro e u1 ⟨rfl, b1⟩
  clear xA0 xA1 xA2 zA z2A xK0 xK1 xK2 xK3 zK z2K
  have KA_6 := Lib.hid (KA_3.out.step b1)
  clear KA_3
  have KK_7 := Lib.hid (KK_4.out.step b1)
  clear KK_4
  have HB8 := Lib.hid (keep2 b1 HB5.out)
  clear HB5 b1
  rw [HE.out]
  go_wp2_with fail
  refine (rkey_q key _ HK.out _).mono ?_
  rintro e w' ⟨rfl, rfl⟩
  go_wp2
  go_ret
  exact ⟨rfl, HB8.out⟩
set_option maxRecDepth 100000 in
set_option maxHeartbeats 4000000 in
theorem rcheck_tag (key id tag r v x t u er : Int) (sl : Value) (l : List Cv) (w : World) (h : CvsAt w sl l) (he : pmE id tag l r v x t u = er) (hk : inr key 0 2147483646 = true) (h1 : er ≠ 1) (hg : gnB key id tag l = false) : Calls Try.prog 35 #[.int .i64 key, .agg #[.int .i64 id, sl, .int .i64 tag], .agg #[.int .i64 r, .int .i64 v, .int .i64 x, .int .i64 t], .int .i64 u] w fun e w' => e = .returned (.int .i64 15) ∧ Below w.heap.size w w' := by
  have H := Lib.hid h
  have HE := Lib.hid he
  obtain ⟨a, cap, rfl, -, -, -⟩ := h
  clear he
  have HK := Lib.hid hk
  clear hk
  have q1 : (er == 1) = false := by simpa using h1
  have q2 : decide (er = 1) = false := by simpa using h1
  clear h1
  have HG := Lib.hid hg
  clear hg
  have HB0 := Lib.hid (Below.refl w.heap.size w)
  go_enter Try.func35, Try.ntmps35
  have KA_1 := Lib.hid (Cs.new w (w.heap.size) #[.int .i64 id, .slice a l.length cap, .int .i64 tag] 27 (by simp))
  have HB2 : Hid (Below w.heap.size w (w.alloc (.cells #[.int .i64 id, .slice a l.length cap, .int .i64 tag] 27))) := HB0.out.alloc HB0.out.size _
  clear HB0
  have KA_3 := Lib.hid (KA_1.out.alloc (.cells #[.int .i64 r, .int .i64 v, .int .i64 x, .int .i64 t] 29))
  clear KA_1
  have KK_4 := Lib.hid (Cs.new (w.alloc (.cells #[.int .i64 id, .slice a l.length cap, .int .i64 tag] 27)) (w.heap.size + 1) #[.int .i64 r, .int .i64 v, .int .i64 x, .int .i64 t] 29 (by simp))
  have HB5 : Hid (Below w.heap.size w ((w.alloc (.cells #[.int .i64 id, .slice a l.length cap, .int .i64 tag] 27)).alloc (.cells #[.int .i64 r, .int .i64 v, .int .i64 x, .int .i64 t] 29))) := HB2.out.alloc HB2.out.size _
  clear HB2
  have xA0 : ((w.alloc (.cells #[.int .i64 id, .slice a l.length cap, .int .i64 tag] 27)).alloc (.cells #[.int .i64 r, .int .i64 v, .int .i64 x, .int .i64 t] 29)).cell? ⟨w.heap.size, 0, none⟩ = some (.int .i64 id) := KA_3.out.c 0 rfl
  have xA1 : ((w.alloc (.cells #[.int .i64 id, .slice a l.length cap, .int .i64 tag] 27)).alloc (.cells #[.int .i64 r, .int .i64 v, .int .i64 x, .int .i64 t] 29)).cell? ⟨w.heap.size, 1, none⟩ = some (.slice a l.length cap) := KA_3.out.c 1 rfl
  have xA2 : ((w.alloc (.cells #[.int .i64 id, .slice a l.length cap, .int .i64 tag] 27)).alloc (.cells #[.int .i64 r, .int .i64 v, .int .i64 x, .int .i64 t] 29)).cell? ⟨w.heap.size, 2, none⟩ = some (.int .i64 tag) := KA_3.out.c 2 rfl
  have zA : w.heap.size < ((w.alloc (.cells #[.int .i64 id, .slice a l.length cap, .int .i64 tag] 27)).alloc (.cells #[.int .i64 r, .int .i64 v, .int .i64 x, .int .i64 t] 29)).heap.size := KA_3.out.2.2
  have z2A : w.heap.size < ((w.alloc (.cells #[.int .i64 id, .slice a l.length cap, .int .i64 tag] 27)).alloc (.cells #[.int .i64 r, .int .i64 v, .int .i64 x, .int .i64 t] 29)).heap.size + 1 := by omega
  have xK0 : ((w.alloc (.cells #[.int .i64 id, .slice a l.length cap, .int .i64 tag] 27)).alloc (.cells #[.int .i64 r, .int .i64 v, .int .i64 x, .int .i64 t] 29)).cell? ⟨w.heap.size + 1, 0, none⟩ = some (.int .i64 r) := KK_4.out.c 0 rfl
  have xK1 : ((w.alloc (.cells #[.int .i64 id, .slice a l.length cap, .int .i64 tag] 27)).alloc (.cells #[.int .i64 r, .int .i64 v, .int .i64 x, .int .i64 t] 29)).cell? ⟨w.heap.size + 1, 1, none⟩ = some (.int .i64 v) := KK_4.out.c 1 rfl
  have xK2 : ((w.alloc (.cells #[.int .i64 id, .slice a l.length cap, .int .i64 tag] 27)).alloc (.cells #[.int .i64 r, .int .i64 v, .int .i64 x, .int .i64 t] 29)).cell? ⟨w.heap.size + 1, 2, none⟩ = some (.int .i64 x) := KK_4.out.c 2 rfl
  have xK3 : ((w.alloc (.cells #[.int .i64 id, .slice a l.length cap, .int .i64 tag] 27)).alloc (.cells #[.int .i64 r, .int .i64 v, .int .i64 x, .int .i64 t] 29)).cell? ⟨w.heap.size + 1, 3, none⟩ = some (.int .i64 t) := KK_4.out.c 3 rfl
  have zK : w.heap.size + 1 < ((w.alloc (.cells #[.int .i64 id, .slice a l.length cap, .int .i64 tag] 27)).alloc (.cells #[.int .i64 r, .int .i64 v, .int .i64 x, .int .i64 t] 29)).heap.size := KK_4.out.2.2
  have z2K : w.heap.size + 1 < ((w.alloc (.cells #[.int .i64 id, .slice a l.length cap, .int .i64 tag] 27)).alloc (.cells #[.int .i64 r, .int .i64 v, .int .i64 x, .int .i64 t] 29)).heap.size + 1 := by omega
  go_wp2_with fail
  refine (rpermits_any id tag r v x t u _ l _ (H.out.step HB5.out)).mono ?_
  rintro e u1 ⟨rfl, b1⟩
  clear xA0 xA1 xA2 zA z2A xK0 xK1 xK2 xK3 zK z2K
  have KA_6 := Lib.hid (KA_3.out.step b1)
  clear KA_3
  have KK_7 := Lib.hid (KK_4.out.step b1)
  clear KK_4
  have HB8 := Lib.hid (keep2 b1 HB5.out)
  clear HB5 b1
  rw [HE.out]
  go_wp2_with fail
  refine (rkey_q key _ HK.out _).mono ?_
  rintro e w' ⟨rfl, rfl⟩
  have xA0 : u1.cell? ⟨w.heap.size, 0, none⟩ = some (.int .i64 id) := KA_6.out.c 0 rfl
  have xA1 : u1.cell? ⟨w.heap.size, 1, none⟩ = some (.slice a l.length cap) := KA_6.out.c 1 rfl
  have xA2 : u1.cell? ⟨w.heap.size, 2, none⟩ = some (.int .i64 tag) := KA_6.out.c 2 rfl
  have zA : w.heap.size < u1.heap.size := KA_6.out.2.2
  have z2A : w.heap.size < u1.heap.size + 1 := by omega
  go_wp2_with fail
  refine (rgenuine_any key id tag _ l _ (H.out.step HB8.out)).mono ?_
  rintro e u2 ⟨rfl, b2⟩
  clear xA0 xA1 xA2 zA z2A
  have KA_9 := Lib.hid (KA_6.out.step b2)
  clear KA_6
  have KK_10 := Lib.hid (KK_7.out.step b2)
  clear KK_7
  have HB11 := Lib.hid (keep2 b2 HB8.out)
  clear HB8 b2
  rw [HG.out]
  go_wp2
  go_ret
  exact ⟨rfl, HB11.out⟩
set_option maxRecDepth 100000 in
set_option maxHeartbeats 4000000 in
theorem rcheck_ok (key id tag r v x t u er : Int) (sl : Value) (l : List Cv) (w : World) (h : CvsAt w sl l) (he : pmE id tag l r v x t u = er) (hk : inr key 0 2147483646 = true) (h1 : er ≠ 1) (hg : gnB key id tag l = true) : Calls Try.prog 35 #[.int .i64 key, .agg #[.int .i64 id, sl, .int .i64 tag], .agg #[.int .i64 r, .int .i64 v, .int .i64 x, .int .i64 t], .int .i64 u] w fun e w' => e = .returned (.int .i64 er) ∧ Below w.heap.size w w' := by
  have H := Lib.hid h
  have HE := Lib.hid he
  obtain ⟨a, cap, rfl, -, -, -⟩ := h
  clear he
  have HK := Lib.hid hk
  clear hk
  have q1 : (er == 1) = false := by simpa using h1
  have q2 : decide (er = 1) = false := by simpa using h1
  clear h1
  have HG := Lib.hid hg
  clear hg
  have HB0 := Lib.hid (Below.refl w.heap.size w)
  go_enter Try.func35, Try.ntmps35
  have KA_1 := Lib.hid (Cs.new w (w.heap.size) #[.int .i64 id, .slice a l.length cap, .int .i64 tag] 27 (by simp))
  have HB2 : Hid (Below w.heap.size w (w.alloc (.cells #[.int .i64 id, .slice a l.length cap, .int .i64 tag] 27))) := HB0.out.alloc HB0.out.size _
  clear HB0
  have KA_3 := Lib.hid (KA_1.out.alloc (.cells #[.int .i64 r, .int .i64 v, .int .i64 x, .int .i64 t] 29))
  clear KA_1
  have KK_4 := Lib.hid (Cs.new (w.alloc (.cells #[.int .i64 id, .slice a l.length cap, .int .i64 tag] 27)) (w.heap.size + 1) #[.int .i64 r, .int .i64 v, .int .i64 x, .int .i64 t] 29 (by simp))
  have HB5 : Hid (Below w.heap.size w ((w.alloc (.cells #[.int .i64 id, .slice a l.length cap, .int .i64 tag] 27)).alloc (.cells #[.int .i64 r, .int .i64 v, .int .i64 x, .int .i64 t] 29))) := HB2.out.alloc HB2.out.size _
  clear HB2
  have xA0 : ((w.alloc (.cells #[.int .i64 id, .slice a l.length cap, .int .i64 tag] 27)).alloc (.cells #[.int .i64 r, .int .i64 v, .int .i64 x, .int .i64 t] 29)).cell? ⟨w.heap.size, 0, none⟩ = some (.int .i64 id) := KA_3.out.c 0 rfl
  have xA1 : ((w.alloc (.cells #[.int .i64 id, .slice a l.length cap, .int .i64 tag] 27)).alloc (.cells #[.int .i64 r, .int .i64 v, .int .i64 x, .int .i64 t] 29)).cell? ⟨w.heap.size, 1, none⟩ = some (.slice a l.length cap) := KA_3.out.c 1 rfl
  have xA2 : ((w.alloc (.cells #[.int .i64 id, .slice a l.length cap, .int .i64 tag] 27)).alloc (.cells #[.int .i64 r, .int .i64 v, .int .i64 x, .int .i64 t] 29)).cell? ⟨w.heap.size, 2, none⟩ = some (.int .i64 tag) := KA_3.out.c 2 rfl
  have zA : w.heap.size < ((w.alloc (.cells #[.int .i64 id, .slice a l.length cap, .int .i64 tag] 27)).alloc (.cells #[.int .i64 r, .int .i64 v, .int .i64 x, .int .i64 t] 29)).heap.size := KA_3.out.2.2
  have z2A : w.heap.size < ((w.alloc (.cells #[.int .i64 id, .slice a l.length cap, .int .i64 tag] 27)).alloc (.cells #[.int .i64 r, .int .i64 v, .int .i64 x, .int .i64 t] 29)).heap.size + 1 := by omega
  have xK0 : ((w.alloc (.cells #[.int .i64 id, .slice a l.length cap, .int .i64 tag] 27)).alloc (.cells #[.int .i64 r, .int .i64 v, .int .i64 x, .int .i64 t] 29)).cell? ⟨w.heap.size + 1, 0, none⟩ = some (.int .i64 r) := KK_4.out.c 0 rfl
  have xK1 : ((w.alloc (.cells #[.int .i64 id, .slice a l.length cap, .int .i64 tag] 27)).alloc (.cells #[.int .i64 r, .int .i64 v, .int .i64 x, .int .i64 t] 29)).cell? ⟨w.heap.size + 1, 1, none⟩ = some (.int .i64 v) := KK_4.out.c 1 rfl
  have xK2 : ((w.alloc (.cells #[.int .i64 id, .slice a l.length cap, .int .i64 tag] 27)).alloc (.cells #[.int .i64 r, .int .i64 v, .int .i64 x, .int .i64 t] 29)).cell? ⟨w.heap.size + 1, 2, none⟩ = some (.int .i64 x) := KK_4.out.c 2 rfl
  have xK3 : ((w.alloc (.cells #[.int .i64 id, .slice a l.length cap, .int .i64 tag] 27)).alloc (.cells #[.int .i64 r, .int .i64 v, .int .i64 x, .int .i64 t] 29)).cell? ⟨w.heap.size + 1, 3, none⟩ = some (.int .i64 t) := KK_4.out.c 3 rfl
  have zK : w.heap.size + 1 < ((w.alloc (.cells #[.int .i64 id, .slice a l.length cap, .int .i64 tag] 27)).alloc (.cells #[.int .i64 r, .int .i64 v, .int .i64 x, .int .i64 t] 29)).heap.size := KK_4.out.2.2
  have z2K : w.heap.size + 1 < ((w.alloc (.cells #[.int .i64 id, .slice a l.length cap, .int .i64 tag] 27)).alloc (.cells #[.int .i64 r, .int .i64 v, .int .i64 x, .int .i64 t] 29)).heap.size + 1 := by omega
  go_wp2_with fail
  refine (rpermits_any id tag r v x t u _ l _ (H.out.step HB5.out)).mono ?_
  rintro e u1 ⟨rfl, b1⟩
  clear xA0 xA1 xA2 zA z2A xK0 xK1 xK2 xK3 zK z2K
  have KA_6 := Lib.hid (KA_3.out.step b1)
  clear KA_3
  have KK_7 := Lib.hid (KK_4.out.step b1)
  clear KK_4
  have HB8 := Lib.hid (keep2 b1 HB5.out)
  clear HB5 b1
  rw [HE.out]
  go_wp2_with fail
  refine (rkey_q key _ HK.out _).mono ?_
  rintro e w' ⟨rfl, rfl⟩
  have xA0 : u1.cell? ⟨w.heap.size, 0, none⟩ = some (.int .i64 id) := KA_6.out.c 0 rfl
  have xA1 : u1.cell? ⟨w.heap.size, 1, none⟩ = some (.slice a l.length cap) := KA_6.out.c 1 rfl
  have xA2 : u1.cell? ⟨w.heap.size, 2, none⟩ = some (.int .i64 tag) := KA_6.out.c 2 rfl
  have zA : w.heap.size < u1.heap.size := KA_6.out.2.2
  have z2A : w.heap.size < u1.heap.size + 1 := by omega
  go_wp2_with fail
  refine (rgenuine_any key id tag _ l _ (H.out.step HB8.out)).mono ?_
  rintro e u2 ⟨rfl, b2⟩
  clear xA0 xA1 xA2 zA z2A
  have KA_9 := Lib.hid (KA_6.out.step b2)
  clear KA_6
  have KK_10 := Lib.hid (KK_7.out.step b2)
  clear KK_7
  have HB11 := Lib.hid (keep2 b2 HB8.out)
  clear HB8 b2
  rw [HG.out]
  go_wp2
  go_ret
  exact ⟨rfl, HB11.out⟩
theorem rcheck_any (key id tag r v x t u : Int) (sl : Value) (l : List Cv) (w : World) (h : CvsAt w sl l) : Calls Try.prog 35 #[.int .i64 key, .agg #[.int .i64 id, sl, .int .i64 tag], .agg #[.int .i64 r, .int .i64 v, .int .i64 x, .int .i64 t], .int .i64 u] w fun e w' => e = .returned (.int .i64 (ckV key id tag l r v x t u)) ∧ Below w.heap.size w w' := by
  cases h1 : inr key 0 2147483646
  · have : ckV key id tag l r v x t u = 1 := by unfold ckV; simp [h1]
    rw [this]; exact rcheck_key key id tag r v x t u _ sl l w h rfl h1
  · by_cases h2 : pmE id tag l r v x t u = 1
    · have : ckV key id tag l r v x t u = 1 := by unfold ckV; simp [h2]
      rw [this]; exact rcheck_arg key id tag r v x t u _ sl l w h rfl h1 h2
    · cases h3 : gnB key id tag l
      · have : ckV key id tag l r v x t u = 15 := by unfold ckV; simp [h1, h2, h3]
        rw [this]; exact rcheck_tag key id tag r v x t u _ sl l w h rfl h1 h2 h3
      · have : ckV key id tag l r v x t u = pmE id tag l r v x t u := by unfold ckV; simp [h1, h2, h3]
        rw [this]; exact rcheck_ok key id tag r v x t u _ sl l w h rfl h1 h2 h3
end Go.Proofs.Ytpoldplmaomkaaa
