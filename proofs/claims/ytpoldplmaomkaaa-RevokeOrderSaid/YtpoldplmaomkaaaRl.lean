/- Sets of tags: the reference's 'Check'; how many tags the laws take. -/
import Derived.Test.YtpoldplmaomkaaaRk
import Derived.Test.YtpoldplmaomkaaaRj
namespace Go.Proofs.Ytpoldplmaomkaaa
open Go.RowKit

theorem ckE_ne (r v t u k x : Int) : ckE r v t u k x ≠ 15 := by
  unfold ckE unl
  split
  · split <;> decide
  · split
    · split <;> decide
    · split
      · split <;> decide
      · split
        · split <;> decide
        · split <;> decide
theorem prL_ne (r v t u : Int) : ∀ l : List Cv, prL r v t u l ≠ 15
  | [] => by unfold prL; decide
  | c :: l => by
    unfold prL
    split
    · exact prL_ne r v t u l
    · exact ckE_ne _ _ _ _ _ _
theorem ck_tag {key id tag : Int} {l : List Cv} {r v x t u : Int} (h : ckV key id tag l r v x t u = 15) : chB key id tag l = [] := by
  unfold ckV at h
  split at h
  · split at h
    · exfalso
      unfold pmE at h
      split at h
      · exact prL_ne _ _ _ _ _ h
      · exact absurd h (by decide)
    · rename_i hg
      unfold chB
      rw [if_neg hg]
  · exact absurd h (by decide)
theorem in_qn (v : Value) (l : List Int) (n : Int) (b : Bool) (hb : inB l n = b) (w : World) (q : Nat) (h : IntsAt w v l) : Calls Try.prog 22 #[v, .int .i64 n] (w.drewN q) fun e w' => e = .returned (.bool b) ∧ w' = w.drewN q :=
  (in_any v l n (w.drewN q) (h.drewN q)).mono fun _ _ h => ⟨by rw [h.1, hb], h.2.symm⟩
set_option maxRecDepth 100000 in
set_option maxHeartbeats 4000000 in
theorem rchk_bad1 (key id tag r v x t u : Int) (vr sl : Value) (m : List Int) (l : List Cv) (w : World) (h : CvsAt w sl l) (hr : IntsAt w vr m) (h1 : stB m = false) : Calls Try.prog 19 #[.int .i64 key, .agg #[vr], .agg #[.int .i64 id, sl, .int .i64 tag], .agg #[.int .i64 r, .int .i64 v, .int .i64 x, .int .i64 t], .int .i64 u] w fun e w' => e = .returned (.int .i64 1) ∧ Below w.heap.size w w' := by
  have H := Lib.hid h
  have HR := Lib.hid hr
  obtain ⟨a, cap, rfl, -, -, -⟩ := h
  obtain ⟨ra, rc, rfl, -, -⟩ := hr
  have S1 := Lib.hid h1
  clear h1
  have HB0 := Lib.hid (Below.refl w.heap.size w)
  go_enter Try.func19, Try.ntmps19
  have KS_1 := Lib.hid (Cs.new w (w.heap.size) #[.slice ra m.length rc] 24 (by simp))
  have HB2 : Hid (Below w.heap.size w (w.alloc (.cells #[.slice ra m.length rc] 24))) := HB0.out.alloc HB0.out.size _
  clear HB0
  have KS_3 := Lib.hid (KS_1.out.alloc (.cells #[.int .i64 id, .slice a l.length cap, .int .i64 tag] 27))
  clear KS_1
  have KA_4 := Lib.hid (Cs.new (w.alloc (.cells #[.slice ra m.length rc] 24)) (w.heap.size + 1) #[.int .i64 id, .slice a l.length cap, .int .i64 tag] 27 (by simp))
  have HB5 : Hid (Below w.heap.size w ((w.alloc (.cells #[.slice ra m.length rc] 24)).alloc (.cells #[.int .i64 id, .slice a l.length cap, .int .i64 tag] 27))) := HB2.out.alloc HB2.out.size _
  clear HB2
  have KS_6 := Lib.hid (KS_3.out.alloc (.cells #[.int .i64 r, .int .i64 v, .int .i64 x, .int .i64 t] 29))
  clear KS_3
  have KA_7 := Lib.hid (KA_4.out.alloc (.cells #[.int .i64 r, .int .i64 v, .int .i64 x, .int .i64 t] 29))
  clear KA_4
  have KK_8 := Lib.hid (Cs.new ((w.alloc (.cells #[.slice ra m.length rc] 24)).alloc (.cells #[.int .i64 id, .slice a l.length cap, .int .i64 tag] 27)) (w.heap.size + 1 + 1) #[.int .i64 r, .int .i64 v, .int .i64 x, .int .i64 t] 29 (by simp))
  have HB9 : Hid (Below w.heap.size w (((w.alloc (.cells #[.slice ra m.length rc] 24)).alloc (.cells #[.int .i64 id, .slice a l.length cap, .int .i64 tag] 27)).alloc (.cells #[.int .i64 r, .int .i64 v, .int .i64 x, .int .i64 t] 29))) := HB5.out.alloc HB5.out.size _
  clear HB5
  have xA0 : (((w.alloc (.cells #[.slice ra m.length rc] 24)).alloc (.cells #[.int .i64 id, .slice a l.length cap, .int .i64 tag] 27)).alloc (.cells #[.int .i64 r, .int .i64 v, .int .i64 x, .int .i64 t] 29)).cell? ⟨w.heap.size + 1, 0, none⟩ = some (.int .i64 id) := KA_7.out.c 0 rfl
  have xA1 : (((w.alloc (.cells #[.slice ra m.length rc] 24)).alloc (.cells #[.int .i64 id, .slice a l.length cap, .int .i64 tag] 27)).alloc (.cells #[.int .i64 r, .int .i64 v, .int .i64 x, .int .i64 t] 29)).cell? ⟨w.heap.size + 1, 1, none⟩ = some (.slice a l.length cap) := KA_7.out.c 1 rfl
  have xA2 : (((w.alloc (.cells #[.slice ra m.length rc] 24)).alloc (.cells #[.int .i64 id, .slice a l.length cap, .int .i64 tag] 27)).alloc (.cells #[.int .i64 r, .int .i64 v, .int .i64 x, .int .i64 t] 29)).cell? ⟨w.heap.size + 1, 2, none⟩ = some (.int .i64 tag) := KA_7.out.c 2 rfl
  have zA : w.heap.size + 1 < (((w.alloc (.cells #[.slice ra m.length rc] 24)).alloc (.cells #[.int .i64 id, .slice a l.length cap, .int .i64 tag] 27)).alloc (.cells #[.int .i64 r, .int .i64 v, .int .i64 x, .int .i64 t] 29)).heap.size := KA_7.out.2.2
  have z2A : w.heap.size + 1 < (((w.alloc (.cells #[.slice ra m.length rc] 24)).alloc (.cells #[.int .i64 id, .slice a l.length cap, .int .i64 tag] 27)).alloc (.cells #[.int .i64 r, .int .i64 v, .int .i64 x, .int .i64 t] 29)).heap.size + 1 := by omega
  have xK0 : (((w.alloc (.cells #[.slice ra m.length rc] 24)).alloc (.cells #[.int .i64 id, .slice a l.length cap, .int .i64 tag] 27)).alloc (.cells #[.int .i64 r, .int .i64 v, .int .i64 x, .int .i64 t] 29)).cell? ⟨w.heap.size + 1 + 1, 0, none⟩ = some (.int .i64 r) := KK_8.out.c 0 rfl
  have xK1 : (((w.alloc (.cells #[.slice ra m.length rc] 24)).alloc (.cells #[.int .i64 id, .slice a l.length cap, .int .i64 tag] 27)).alloc (.cells #[.int .i64 r, .int .i64 v, .int .i64 x, .int .i64 t] 29)).cell? ⟨w.heap.size + 1 + 1, 1, none⟩ = some (.int .i64 v) := KK_8.out.c 1 rfl
  have xK2 : (((w.alloc (.cells #[.slice ra m.length rc] 24)).alloc (.cells #[.int .i64 id, .slice a l.length cap, .int .i64 tag] 27)).alloc (.cells #[.int .i64 r, .int .i64 v, .int .i64 x, .int .i64 t] 29)).cell? ⟨w.heap.size + 1 + 1, 2, none⟩ = some (.int .i64 x) := KK_8.out.c 2 rfl
  have xK3 : (((w.alloc (.cells #[.slice ra m.length rc] 24)).alloc (.cells #[.int .i64 id, .slice a l.length cap, .int .i64 tag] 27)).alloc (.cells #[.int .i64 r, .int .i64 v, .int .i64 x, .int .i64 t] 29)).cell? ⟨w.heap.size + 1 + 1, 3, none⟩ = some (.int .i64 t) := KK_8.out.c 3 rfl
  have zK : w.heap.size + 1 + 1 < (((w.alloc (.cells #[.slice ra m.length rc] 24)).alloc (.cells #[.int .i64 id, .slice a l.length cap, .int .i64 tag] 27)).alloc (.cells #[.int .i64 r, .int .i64 v, .int .i64 x, .int .i64 t] 29)).heap.size := KK_8.out.2.2
  have z2K : w.heap.size + 1 + 1 < (((w.alloc (.cells #[.slice ra m.length rc] 24)).alloc (.cells #[.int .i64 id, .slice a l.length cap, .int .i64 tag] 27)).alloc (.cells #[.int .i64 r, .int .i64 v, .int .i64 x, .int .i64 t] 29)).heap.size + 1 := by omega
  go_wp2_with fail
  refine (rcheck_any key id tag r v x t u _ l _ (H.out.step HB9.out)).mono ?_
  rintro e u1 ⟨rfl, b1⟩
  clear xA0 xA1 xA2 zA z2A xK0 xK1 xK2 xK3 zK z2K
  have KS_10 := Lib.hid (KS_6.out.step b1)
  clear KS_6
  have KA_11 := Lib.hid (KA_7.out.step b1)
  clear KA_7
  have KK_12 := Lib.hid (KK_8.out.step b1)
  clear KK_8
  have HB13 := Lib.hid (keep2 b1 HB9.out)
  clear HB9 b1
  obtain ⟨er, her⟩ : ∃ er, ckV key id tag l r v x t u = er := ⟨_, rfl⟩
  rw [her]
  replace her := Lib.hid her
  have xS0 : u1.cell? ⟨w.heap.size, 0, none⟩ = some (.slice ra m.length rc) := KS_10.out.c 0 rfl
  have zS : w.heap.size < u1.heap.size := KS_10.out.2.2
  have z2S : w.heap.size < u1.heap.size + 1 := by omega
  go_wp2_with fail
  refine (rvalid_any _ m _ (HR.out.step HB13.out)).mono ?_
  rintro e u2 ⟨rfl, b2⟩
  clear xS0 zS z2S
  have KS_14 := Lib.hid (KS_10.out.step b2)
  clear KS_10
  have KA_15 := Lib.hid (KA_11.out.step b2)
  clear KA_11
  have KK_16 := Lib.hid (KK_12.out.step b2)
  clear KK_12
  have HB17 := Lib.hid (keep2 b2 HB13.out)
  clear HB13 b2
  rw [S1.out]
  go_wp2
  go_ret
  exact ⟨rfl, HB17.out⟩
set_option maxRecDepth 100000 in
set_option maxHeartbeats 4000000 in
theorem rchk_bad2 (key id tag r v x t u : Int) (vr sl : Value) (m : List Int) (l : List Cv) (w : World) (h : CvsAt w sl l) (hr : IntsAt w vr m) (h1 : stB m = true) (h2 : ckV key id tag l r v x t u = 1) : Calls Try.prog 19 #[.int .i64 key, .agg #[vr], .agg #[.int .i64 id, sl, .int .i64 tag], .agg #[.int .i64 r, .int .i64 v, .int .i64 x, .int .i64 t], .int .i64 u] w fun e w' => e = .returned (.int .i64 1) ∧ Below w.heap.size w w' := by
  have H := Lib.hid h
  have HR := Lib.hid hr
  obtain ⟨a, cap, rfl, -, -, -⟩ := h
  obtain ⟨ra, rc, rfl, -, -⟩ := hr
  have S1 := Lib.hid h1
  clear h1
  have S2 := Lib.hid h2
  clear h2
  have HB0 := Lib.hid (Below.refl w.heap.size w)
  go_enter Try.func19, Try.ntmps19
  have KS_1 := Lib.hid (Cs.new w (w.heap.size) #[.slice ra m.length rc] 24 (by simp))
  have HB2 : Hid (Below w.heap.size w (w.alloc (.cells #[.slice ra m.length rc] 24))) := HB0.out.alloc HB0.out.size _
  clear HB0
  have KS_3 := Lib.hid (KS_1.out.alloc (.cells #[.int .i64 id, .slice a l.length cap, .int .i64 tag] 27))
  clear KS_1
  have KA_4 := Lib.hid (Cs.new (w.alloc (.cells #[.slice ra m.length rc] 24)) (w.heap.size + 1) #[.int .i64 id, .slice a l.length cap, .int .i64 tag] 27 (by simp))
  have HB5 : Hid (Below w.heap.size w ((w.alloc (.cells #[.slice ra m.length rc] 24)).alloc (.cells #[.int .i64 id, .slice a l.length cap, .int .i64 tag] 27))) := HB2.out.alloc HB2.out.size _
  clear HB2
  have KS_6 := Lib.hid (KS_3.out.alloc (.cells #[.int .i64 r, .int .i64 v, .int .i64 x, .int .i64 t] 29))
  clear KS_3
  have KA_7 := Lib.hid (KA_4.out.alloc (.cells #[.int .i64 r, .int .i64 v, .int .i64 x, .int .i64 t] 29))
  clear KA_4
  have KK_8 := Lib.hid (Cs.new ((w.alloc (.cells #[.slice ra m.length rc] 24)).alloc (.cells #[.int .i64 id, .slice a l.length cap, .int .i64 tag] 27)) (w.heap.size + 1 + 1) #[.int .i64 r, .int .i64 v, .int .i64 x, .int .i64 t] 29 (by simp))
  have HB9 : Hid (Below w.heap.size w (((w.alloc (.cells #[.slice ra m.length rc] 24)).alloc (.cells #[.int .i64 id, .slice a l.length cap, .int .i64 tag] 27)).alloc (.cells #[.int .i64 r, .int .i64 v, .int .i64 x, .int .i64 t] 29))) := HB5.out.alloc HB5.out.size _
  clear HB5
  have xA0 : (((w.alloc (.cells #[.slice ra m.length rc] 24)).alloc (.cells #[.int .i64 id, .slice a l.length cap, .int .i64 tag] 27)).alloc (.cells #[.int .i64 r, .int .i64 v, .int .i64 x, .int .i64 t] 29)).cell? ⟨w.heap.size + 1, 0, none⟩ = some (.int .i64 id) := KA_7.out.c 0 rfl
  have xA1 : (((w.alloc (.cells #[.slice ra m.length rc] 24)).alloc (.cells #[.int .i64 id, .slice a l.length cap, .int .i64 tag] 27)).alloc (.cells #[.int .i64 r, .int .i64 v, .int .i64 x, .int .i64 t] 29)).cell? ⟨w.heap.size + 1, 1, none⟩ = some (.slice a l.length cap) := KA_7.out.c 1 rfl
  have xA2 : (((w.alloc (.cells #[.slice ra m.length rc] 24)).alloc (.cells #[.int .i64 id, .slice a l.length cap, .int .i64 tag] 27)).alloc (.cells #[.int .i64 r, .int .i64 v, .int .i64 x, .int .i64 t] 29)).cell? ⟨w.heap.size + 1, 2, none⟩ = some (.int .i64 tag) := KA_7.out.c 2 rfl
  have zA : w.heap.size + 1 < (((w.alloc (.cells #[.slice ra m.length rc] 24)).alloc (.cells #[.int .i64 id, .slice a l.length cap, .int .i64 tag] 27)).alloc (.cells #[.int .i64 r, .int .i64 v, .int .i64 x, .int .i64 t] 29)).heap.size := KA_7.out.2.2
  have z2A : w.heap.size + 1 < (((w.alloc (.cells #[.slice ra m.length rc] 24)).alloc (.cells #[.int .i64 id, .slice a l.length cap, .int .i64 tag] 27)).alloc (.cells #[.int .i64 r, .int .i64 v, .int .i64 x, .int .i64 t] 29)).heap.size + 1 := by omega
  have xK0 : (((w.alloc (.cells #[.slice ra m.length rc] 24)).alloc (.cells #[.int .i64 id, .slice a l.length cap, .int .i64 tag] 27)).alloc (.cells #[.int .i64 r, .int .i64 v, .int .i64 x, .int .i64 t] 29)).cell? ⟨w.heap.size + 1 + 1, 0, none⟩ = some (.int .i64 r) := KK_8.out.c 0 rfl
  have xK1 : (((w.alloc (.cells #[.slice ra m.length rc] 24)).alloc (.cells #[.int .i64 id, .slice a l.length cap, .int .i64 tag] 27)).alloc (.cells #[.int .i64 r, .int .i64 v, .int .i64 x, .int .i64 t] 29)).cell? ⟨w.heap.size + 1 + 1, 1, none⟩ = some (.int .i64 v) := KK_8.out.c 1 rfl
  have xK2 : (((w.alloc (.cells #[.slice ra m.length rc] 24)).alloc (.cells #[.int .i64 id, .slice a l.length cap, .int .i64 tag] 27)).alloc (.cells #[.int .i64 r, .int .i64 v, .int .i64 x, .int .i64 t] 29)).cell? ⟨w.heap.size + 1 + 1, 2, none⟩ = some (.int .i64 x) := KK_8.out.c 2 rfl
  have xK3 : (((w.alloc (.cells #[.slice ra m.length rc] 24)).alloc (.cells #[.int .i64 id, .slice a l.length cap, .int .i64 tag] 27)).alloc (.cells #[.int .i64 r, .int .i64 v, .int .i64 x, .int .i64 t] 29)).cell? ⟨w.heap.size + 1 + 1, 3, none⟩ = some (.int .i64 t) := KK_8.out.c 3 rfl
  have zK : w.heap.size + 1 + 1 < (((w.alloc (.cells #[.slice ra m.length rc] 24)).alloc (.cells #[.int .i64 id, .slice a l.length cap, .int .i64 tag] 27)).alloc (.cells #[.int .i64 r, .int .i64 v, .int .i64 x, .int .i64 t] 29)).heap.size := KK_8.out.2.2
  have z2K : w.heap.size + 1 + 1 < (((w.alloc (.cells #[.slice ra m.length rc] 24)).alloc (.cells #[.int .i64 id, .slice a l.length cap, .int .i64 tag] 27)).alloc (.cells #[.int .i64 r, .int .i64 v, .int .i64 x, .int .i64 t] 29)).heap.size + 1 := by omega
  go_wp2_with fail
  refine (rcheck_any key id tag r v x t u _ l _ (H.out.step HB9.out)).mono ?_
  rintro e u1 ⟨rfl, b1⟩
  clear xA0 xA1 xA2 zA z2A xK0 xK1 xK2 xK3 zK z2K
  have KS_10 := Lib.hid (KS_6.out.step b1)
  clear KS_6
  have KA_11 := Lib.hid (KA_7.out.step b1)
  clear KA_7
  have KK_12 := Lib.hid (KK_8.out.step b1)
  clear KK_8
  have HB13 := Lib.hid (keep2 b1 HB9.out)
  clear HB9 b1
  obtain ⟨er, her⟩ : ∃ er, ckV key id tag l r v x t u = er := ⟨_, rfl⟩
  rw [her]
  replace her := Lib.hid her
  have xS0 : u1.cell? ⟨w.heap.size, 0, none⟩ = some (.slice ra m.length rc) := KS_10.out.c 0 rfl
  have zS : w.heap.size < u1.heap.size := KS_10.out.2.2
  have z2S : w.heap.size < u1.heap.size + 1 := by omega
  go_wp2_with fail
  refine (rvalid_any _ m _ (HR.out.step HB13.out)).mono ?_
  rintro e u2 ⟨rfl, b2⟩
  clear xS0 zS z2S
  have KS_14 := Lib.hid (KS_10.out.step b2)
  clear KS_10
  have KA_15 := Lib.hid (KA_11.out.step b2)
  clear KA_11
  have KK_16 := Lib.hid (KK_12.out.step b2)
  clear KK_12
  have HB17 := Lib.hid (keep2 b2 HB13.out)
  clear HB13 b2
  rw [S1.out]
  obtain rfl : er = 1 := her.out.symm.trans S2.out
  go_wp2
  go_ret
  exact ⟨rfl, HB17.out⟩
set_option maxRecDepth 100000 in
set_option maxHeartbeats 4000000 in
theorem rchk_bad3 (key id tag r v x t u : Int) (vr sl : Value) (m : List Int) (l : List Cv) (w : World) (h : CvsAt w sl l) (hr : IntsAt w vr m) (h1 : stB m = true) (h2 : ckV key id tag l r v x t u = 15) : Calls Try.prog 19 #[.int .i64 key, .agg #[vr], .agg #[.int .i64 id, sl, .int .i64 tag], .agg #[.int .i64 r, .int .i64 v, .int .i64 x, .int .i64 t], .int .i64 u] w fun e w' => e = .returned (.int .i64 15) ∧ Below w.heap.size w w' := by
  have H := Lib.hid h
  have HR := Lib.hid hr
  obtain ⟨a, cap, rfl, -, -, -⟩ := h
  obtain ⟨ra, rc, rfl, -, -⟩ := hr
  have S1 := Lib.hid h1
  clear h1
  have S2 := Lib.hid h2
  clear h2
  have HB0 := Lib.hid (Below.refl w.heap.size w)
  go_enter Try.func19, Try.ntmps19
  have KS_1 := Lib.hid (Cs.new w (w.heap.size) #[.slice ra m.length rc] 24 (by simp))
  have HB2 : Hid (Below w.heap.size w (w.alloc (.cells #[.slice ra m.length rc] 24))) := HB0.out.alloc HB0.out.size _
  clear HB0
  have KS_3 := Lib.hid (KS_1.out.alloc (.cells #[.int .i64 id, .slice a l.length cap, .int .i64 tag] 27))
  clear KS_1
  have KA_4 := Lib.hid (Cs.new (w.alloc (.cells #[.slice ra m.length rc] 24)) (w.heap.size + 1) #[.int .i64 id, .slice a l.length cap, .int .i64 tag] 27 (by simp))
  have HB5 : Hid (Below w.heap.size w ((w.alloc (.cells #[.slice ra m.length rc] 24)).alloc (.cells #[.int .i64 id, .slice a l.length cap, .int .i64 tag] 27))) := HB2.out.alloc HB2.out.size _
  clear HB2
  have KS_6 := Lib.hid (KS_3.out.alloc (.cells #[.int .i64 r, .int .i64 v, .int .i64 x, .int .i64 t] 29))
  clear KS_3
  have KA_7 := Lib.hid (KA_4.out.alloc (.cells #[.int .i64 r, .int .i64 v, .int .i64 x, .int .i64 t] 29))
  clear KA_4
  have KK_8 := Lib.hid (Cs.new ((w.alloc (.cells #[.slice ra m.length rc] 24)).alloc (.cells #[.int .i64 id, .slice a l.length cap, .int .i64 tag] 27)) (w.heap.size + 1 + 1) #[.int .i64 r, .int .i64 v, .int .i64 x, .int .i64 t] 29 (by simp))
  have HB9 : Hid (Below w.heap.size w (((w.alloc (.cells #[.slice ra m.length rc] 24)).alloc (.cells #[.int .i64 id, .slice a l.length cap, .int .i64 tag] 27)).alloc (.cells #[.int .i64 r, .int .i64 v, .int .i64 x, .int .i64 t] 29))) := HB5.out.alloc HB5.out.size _
  clear HB5
  have xA0 : (((w.alloc (.cells #[.slice ra m.length rc] 24)).alloc (.cells #[.int .i64 id, .slice a l.length cap, .int .i64 tag] 27)).alloc (.cells #[.int .i64 r, .int .i64 v, .int .i64 x, .int .i64 t] 29)).cell? ⟨w.heap.size + 1, 0, none⟩ = some (.int .i64 id) := KA_7.out.c 0 rfl
  have xA1 : (((w.alloc (.cells #[.slice ra m.length rc] 24)).alloc (.cells #[.int .i64 id, .slice a l.length cap, .int .i64 tag] 27)).alloc (.cells #[.int .i64 r, .int .i64 v, .int .i64 x, .int .i64 t] 29)).cell? ⟨w.heap.size + 1, 1, none⟩ = some (.slice a l.length cap) := KA_7.out.c 1 rfl
  have xA2 : (((w.alloc (.cells #[.slice ra m.length rc] 24)).alloc (.cells #[.int .i64 id, .slice a l.length cap, .int .i64 tag] 27)).alloc (.cells #[.int .i64 r, .int .i64 v, .int .i64 x, .int .i64 t] 29)).cell? ⟨w.heap.size + 1, 2, none⟩ = some (.int .i64 tag) := KA_7.out.c 2 rfl
  have zA : w.heap.size + 1 < (((w.alloc (.cells #[.slice ra m.length rc] 24)).alloc (.cells #[.int .i64 id, .slice a l.length cap, .int .i64 tag] 27)).alloc (.cells #[.int .i64 r, .int .i64 v, .int .i64 x, .int .i64 t] 29)).heap.size := KA_7.out.2.2
  have z2A : w.heap.size + 1 < (((w.alloc (.cells #[.slice ra m.length rc] 24)).alloc (.cells #[.int .i64 id, .slice a l.length cap, .int .i64 tag] 27)).alloc (.cells #[.int .i64 r, .int .i64 v, .int .i64 x, .int .i64 t] 29)).heap.size + 1 := by omega
  have xK0 : (((w.alloc (.cells #[.slice ra m.length rc] 24)).alloc (.cells #[.int .i64 id, .slice a l.length cap, .int .i64 tag] 27)).alloc (.cells #[.int .i64 r, .int .i64 v, .int .i64 x, .int .i64 t] 29)).cell? ⟨w.heap.size + 1 + 1, 0, none⟩ = some (.int .i64 r) := KK_8.out.c 0 rfl
  have xK1 : (((w.alloc (.cells #[.slice ra m.length rc] 24)).alloc (.cells #[.int .i64 id, .slice a l.length cap, .int .i64 tag] 27)).alloc (.cells #[.int .i64 r, .int .i64 v, .int .i64 x, .int .i64 t] 29)).cell? ⟨w.heap.size + 1 + 1, 1, none⟩ = some (.int .i64 v) := KK_8.out.c 1 rfl
  have xK2 : (((w.alloc (.cells #[.slice ra m.length rc] 24)).alloc (.cells #[.int .i64 id, .slice a l.length cap, .int .i64 tag] 27)).alloc (.cells #[.int .i64 r, .int .i64 v, .int .i64 x, .int .i64 t] 29)).cell? ⟨w.heap.size + 1 + 1, 2, none⟩ = some (.int .i64 x) := KK_8.out.c 2 rfl
  have xK3 : (((w.alloc (.cells #[.slice ra m.length rc] 24)).alloc (.cells #[.int .i64 id, .slice a l.length cap, .int .i64 tag] 27)).alloc (.cells #[.int .i64 r, .int .i64 v, .int .i64 x, .int .i64 t] 29)).cell? ⟨w.heap.size + 1 + 1, 3, none⟩ = some (.int .i64 t) := KK_8.out.c 3 rfl
  have zK : w.heap.size + 1 + 1 < (((w.alloc (.cells #[.slice ra m.length rc] 24)).alloc (.cells #[.int .i64 id, .slice a l.length cap, .int .i64 tag] 27)).alloc (.cells #[.int .i64 r, .int .i64 v, .int .i64 x, .int .i64 t] 29)).heap.size := KK_8.out.2.2
  have z2K : w.heap.size + 1 + 1 < (((w.alloc (.cells #[.slice ra m.length rc] 24)).alloc (.cells #[.int .i64 id, .slice a l.length cap, .int .i64 tag] 27)).alloc (.cells #[.int .i64 r, .int .i64 v, .int .i64 x, .int .i64 t] 29)).heap.size + 1 := by omega
  go_wp2_with fail
  refine (rcheck_any key id tag r v x t u _ l _ (H.out.step HB9.out)).mono ?_
  rintro e u1 ⟨rfl, b1⟩
  clear xA0 xA1 xA2 zA z2A xK0 xK1 xK2 xK3 zK z2K
  have KS_10 := Lib.hid (KS_6.out.step b1)
  clear KS_6
  have KA_11 := Lib.hid (KA_7.out.step b1)
  clear KA_7
  have KK_12 := Lib.hid (KK_8.out.step b1)
  clear KK_8
  have HB13 := Lib.hid (keep2 b1 HB9.out)
  clear HB9 b1
  obtain ⟨er, her⟩ : ∃ er, ckV key id tag l r v x t u = er := ⟨_, rfl⟩
  rw [her]
  replace her := Lib.hid her
  have xS0 : u1.cell? ⟨w.heap.size, 0, none⟩ = some (.slice ra m.length rc) := KS_10.out.c 0 rfl
  have zS : w.heap.size < u1.heap.size := KS_10.out.2.2
  have z2S : w.heap.size < u1.heap.size + 1 := by omega
  go_wp2_with fail
  refine (rvalid_any _ m _ (HR.out.step HB13.out)).mono ?_
  rintro e u2 ⟨rfl, b2⟩
  clear xS0 zS z2S
  have KS_14 := Lib.hid (KS_10.out.step b2)
  clear KS_10
  have KA_15 := Lib.hid (KA_11.out.step b2)
  clear KA_11
  have KK_16 := Lib.hid (KK_12.out.step b2)
  clear KK_12
  have HB17 := Lib.hid (keep2 b2 HB13.out)
  clear HB13 b2
  rw [S1.out]
  obtain rfl : er = 15 := her.out.symm.trans S2.out
  go_wp2
  go_ret
  exact ⟨rfl, HB17.out⟩
set_option maxRecDepth 100000 in
set_option maxHeartbeats 4000000 in
theorem rchk_main (key id tag r v x t u : Int) (vr sl : Value) (m : List Int) (l : List Cv) (w : World) (h : CvsAt w sl l) (hr : IntsAt w vr m) (h1 : stB m = true) (h2 : ckV key id tag l r v x t u ≠ 1) (h3 : ckV key id tag l r v x t u ≠ 15) (z : Int) (hz : (if (chB key id tag l).any (inB m) then 21 else ckV key id tag l r v x t u) = z) : Calls Try.prog 19 #[.int .i64 key, .agg #[vr], .agg #[.int .i64 id, sl, .int .i64 tag], .agg #[.int .i64 r, .int .i64 v, .int .i64 x, .int .i64 t], .int .i64 u] w fun e w' => e = .returned (.int .i64 z) ∧ Below w.heap.size w w' := by
  have H := Lib.hid h
  have HR := Lib.hid hr
  obtain ⟨a, cap, rfl, -, -, -⟩ := h
  obtain ⟨ra, rc, rfl, -, -⟩ := hr
  have HZ := Lib.hid hz
  clear hz
  have S1 := Lib.hid h1
  clear h1
  have S2 := Lib.hid h2
  clear h2
  have S3 := Lib.hid h3
  clear h3
  have HB0 := Lib.hid (Below.refl w.heap.size w)
  go_enter Try.func19, Try.ntmps19
  have KS_1 := Lib.hid (Cs.new w (w.heap.size) #[.slice ra m.length rc] 24 (by simp))
  have HB2 : Hid (Below w.heap.size w (w.alloc (.cells #[.slice ra m.length rc] 24))) := HB0.out.alloc HB0.out.size _
  clear HB0
  have KS_3 := Lib.hid (KS_1.out.alloc (.cells #[.int .i64 id, .slice a l.length cap, .int .i64 tag] 27))
  clear KS_1
  have KA_4 := Lib.hid (Cs.new (w.alloc (.cells #[.slice ra m.length rc] 24)) (w.heap.size + 1) #[.int .i64 id, .slice a l.length cap, .int .i64 tag] 27 (by simp))
  have HB5 : Hid (Below w.heap.size w ((w.alloc (.cells #[.slice ra m.length rc] 24)).alloc (.cells #[.int .i64 id, .slice a l.length cap, .int .i64 tag] 27))) := HB2.out.alloc HB2.out.size _
  clear HB2
  have KS_6 := Lib.hid (KS_3.out.alloc (.cells #[.int .i64 r, .int .i64 v, .int .i64 x, .int .i64 t] 29))
  clear KS_3
  have KA_7 := Lib.hid (KA_4.out.alloc (.cells #[.int .i64 r, .int .i64 v, .int .i64 x, .int .i64 t] 29))
  clear KA_4
  have KK_8 := Lib.hid (Cs.new ((w.alloc (.cells #[.slice ra m.length rc] 24)).alloc (.cells #[.int .i64 id, .slice a l.length cap, .int .i64 tag] 27)) (w.heap.size + 1 + 1) #[.int .i64 r, .int .i64 v, .int .i64 x, .int .i64 t] 29 (by simp))
  have HB9 : Hid (Below w.heap.size w (((w.alloc (.cells #[.slice ra m.length rc] 24)).alloc (.cells #[.int .i64 id, .slice a l.length cap, .int .i64 tag] 27)).alloc (.cells #[.int .i64 r, .int .i64 v, .int .i64 x, .int .i64 t] 29))) := HB5.out.alloc HB5.out.size _
  clear HB5
  have xA0 : (((w.alloc (.cells #[.slice ra m.length rc] 24)).alloc (.cells #[.int .i64 id, .slice a l.length cap, .int .i64 tag] 27)).alloc (.cells #[.int .i64 r, .int .i64 v, .int .i64 x, .int .i64 t] 29)).cell? ⟨w.heap.size + 1, 0, none⟩ = some (.int .i64 id) := KA_7.out.c 0 rfl
  have xA1 : (((w.alloc (.cells #[.slice ra m.length rc] 24)).alloc (.cells #[.int .i64 id, .slice a l.length cap, .int .i64 tag] 27)).alloc (.cells #[.int .i64 r, .int .i64 v, .int .i64 x, .int .i64 t] 29)).cell? ⟨w.heap.size + 1, 1, none⟩ = some (.slice a l.length cap) := KA_7.out.c 1 rfl
  have xA2 : (((w.alloc (.cells #[.slice ra m.length rc] 24)).alloc (.cells #[.int .i64 id, .slice a l.length cap, .int .i64 tag] 27)).alloc (.cells #[.int .i64 r, .int .i64 v, .int .i64 x, .int .i64 t] 29)).cell? ⟨w.heap.size + 1, 2, none⟩ = some (.int .i64 tag) := KA_7.out.c 2 rfl
  have zA : w.heap.size + 1 < (((w.alloc (.cells #[.slice ra m.length rc] 24)).alloc (.cells #[.int .i64 id, .slice a l.length cap, .int .i64 tag] 27)).alloc (.cells #[.int .i64 r, .int .i64 v, .int .i64 x, .int .i64 t] 29)).heap.size := KA_7.out.2.2
  have z2A : w.heap.size + 1 < (((w.alloc (.cells #[.slice ra m.length rc] 24)).alloc (.cells #[.int .i64 id, .slice a l.length cap, .int .i64 tag] 27)).alloc (.cells #[.int .i64 r, .int .i64 v, .int .i64 x, .int .i64 t] 29)).heap.size + 1 := by omega
  have xK0 : (((w.alloc (.cells #[.slice ra m.length rc] 24)).alloc (.cells #[.int .i64 id, .slice a l.length cap, .int .i64 tag] 27)).alloc (.cells #[.int .i64 r, .int .i64 v, .int .i64 x, .int .i64 t] 29)).cell? ⟨w.heap.size + 1 + 1, 0, none⟩ = some (.int .i64 r) := KK_8.out.c 0 rfl
  have xK1 : (((w.alloc (.cells #[.slice ra m.length rc] 24)).alloc (.cells #[.int .i64 id, .slice a l.length cap, .int .i64 tag] 27)).alloc (.cells #[.int .i64 r, .int .i64 v, .int .i64 x, .int .i64 t] 29)).cell? ⟨w.heap.size + 1 + 1, 1, none⟩ = some (.int .i64 v) := KK_8.out.c 1 rfl
  have xK2 : (((w.alloc (.cells #[.slice ra m.length rc] 24)).alloc (.cells #[.int .i64 id, .slice a l.length cap, .int .i64 tag] 27)).alloc (.cells #[.int .i64 r, .int .i64 v, .int .i64 x, .int .i64 t] 29)).cell? ⟨w.heap.size + 1 + 1, 2, none⟩ = some (.int .i64 x) := KK_8.out.c 2 rfl
  have xK3 : (((w.alloc (.cells #[.slice ra m.length rc] 24)).alloc (.cells #[.int .i64 id, .slice a l.length cap, .int .i64 tag] 27)).alloc (.cells #[.int .i64 r, .int .i64 v, .int .i64 x, .int .i64 t] 29)).cell? ⟨w.heap.size + 1 + 1, 3, none⟩ = some (.int .i64 t) := KK_8.out.c 3 rfl
  have zK : w.heap.size + 1 + 1 < (((w.alloc (.cells #[.slice ra m.length rc] 24)).alloc (.cells #[.int .i64 id, .slice a l.length cap, .int .i64 tag] 27)).alloc (.cells #[.int .i64 r, .int .i64 v, .int .i64 x, .int .i64 t] 29)).heap.size := KK_8.out.2.2
  have z2K : w.heap.size + 1 + 1 < (((w.alloc (.cells #[.slice ra m.length rc] 24)).alloc (.cells #[.int .i64 id, .slice a l.length cap, .int .i64 tag] 27)).alloc (.cells #[.int .i64 r, .int .i64 v, .int .i64 x, .int .i64 t] 29)).heap.size + 1 := by omega
  go_wp2_with fail
  refine (rcheck_any key id tag r v x t u _ l _ (H.out.step HB9.out)).mono ?_
  rintro e u1 ⟨rfl, b1⟩
  clear xA0 xA1 xA2 zA z2A xK0 xK1 xK2 xK3 zK z2K
  have KS_10 := Lib.hid (KS_6.out.step b1)
  clear KS_6
  have KA_11 := Lib.hid (KA_7.out.step b1)
  clear KA_7
  have KK_12 := Lib.hid (KK_8.out.step b1)
  clear KK_8
  have HB13 := Lib.hid (keep2 b1 HB9.out)
  clear HB9 b1
  obtain ⟨er, her⟩ : ∃ er, ckV key id tag l r v x t u = er := ⟨_, rfl⟩
  rw [her]
  replace her := Lib.hid her
  have xS0 : u1.cell? ⟨w.heap.size, 0, none⟩ = some (.slice ra m.length rc) := KS_10.out.c 0 rfl
  have zS : w.heap.size < u1.heap.size := KS_10.out.2.2
  have z2S : w.heap.size < u1.heap.size + 1 := by omega
  go_wp2_with fail
  refine (rvalid_any _ m _ (HR.out.step HB13.out)).mono ?_
  rintro e u2 ⟨rfl, b2⟩
  clear xS0 zS z2S
  have KS_14 := Lib.hid (KS_10.out.step b2)
  clear KS_10
  have KA_15 := Lib.hid (KA_11.out.step b2)
  clear KA_11
  have KK_16 := Lib.hid (KK_12.out.step b2)
  clear KK_12
  have HB17 := Lib.hid (keep2 b2 HB13.out)
  clear HB13 b2
  rw [S1.out]
  have k0 : er ≠ 1 := fun h => S2.out (her.out.trans h)
  have k1 : (er == 1) = false := by simpa using k0
  have k2 : decide (er = 1) = false := by simpa using k0
  have k3 : er ≠ 15 := fun h => S3.out (her.out.trans h)
  have k4 : (er == 15) = false := by simpa using k3
  have k5 : decide (er = 15) = false := by simpa using k3
  have xA0 : u2.cell? ⟨w.heap.size + 1, 0, none⟩ = some (.int .i64 id) := KA_15.out.c 0 rfl
  have xA1 : u2.cell? ⟨w.heap.size + 1, 1, none⟩ = some (.slice a l.length cap) := KA_15.out.c 1 rfl
  have xA2 : u2.cell? ⟨w.heap.size + 1, 2, none⟩ = some (.int .i64 tag) := KA_15.out.c 2 rfl
  have zA : w.heap.size + 1 < u2.heap.size := KA_15.out.2.2
  have z2A : w.heap.size + 1 < u2.heap.size + 1 := by omega
  go_wp2_with fail
  refine (rchain_any key id tag _ l _ (H.out.step HB17.out)).mono ?_
  rintro e u9 ⟨uc, rfl, hu, b9⟩
  have HU := Lib.hid hu
  obtain ⟨ca, cc, rfl, hcm, -⟩ := hu
  unfold maxLen at hcm
  clear k0 k1 k2 k3 k4 k5
  clear xA0 xA1 xA2 zA z2A
  have KS_18 := Lib.hid (KS_14.out.step b9)
  clear KS_14
  have KA_19 := Lib.hid (KA_15.out.step b9)
  clear KA_15
  have KK_20 := Lib.hid (KK_16.out.step b9)
  clear KK_16
  have HB21 := Lib.hid (keep2 b9 HB17.out)
  clear HB17 b9
  obtain ⟨CH, hCH⟩ : ∃ CH, chB key id tag l = CH := ⟨_, rfl⟩
  rw [hCH] at HU hcm ⊢
  replace hCH := Lib.hid hCH
  go_wp2_with fail
  go_loopw [13] (fun i wr => ∃ k : Nat, k ≤ CH.length ∧ i = .int .i64 k ∧ Hid (∀ j, j < k → inB m (CH.getD j 0) = false) ∧ Hid (Below u9.heap.size u9 wr)) (fun i _ => CH.length - (intOf i).toNat)
  case atStart => exact ⟨0, by omega, rfl, fun j h => absurd h (by omega), Below.refl _ _⟩
  case round =>
    obtain ⟨k, hk, rfl, HN, HW⟩ := hrel
    have HBk := Lib.hid (keep2 HW.out HB21.out)
    have KSk := Lib.hid (KS_18.out.step HW.out)
    by_cases hlt : k < CH.length
    · obtain ⟨a2, cap2, hva, -, hcs⟩ := HU.out.step HW.out
      obtain ⟨rfl, rfl⟩ : ca = a2 ∧ cc = cap2 := by simpa using hva
      obtain ⟨b, off, rfl, hcs2⟩ := hcs (by intro h; rw [h] at hlt; simp at hlt)
      have hx := hcs2 k _ (getD_of hlt)
      have y0 := KSk.out.c 0 rfl
      have yz := KSk.out.2.2
      clear hcs hcs2 hva
      cases hf : inB m (CH.getD k 0)
      · have HF := Lib.hid hf
        have HN2 := Lib.hid (show ∀ j, j < k + 1 → inB m (CH.getD j 0) = false from fun j h => by
          by_cases e : j = k
          · subst e; exact hf
          · exact HN.out j (by omega))
        clear hf HN
        generalize CH.getD k 0 = y at *
        go_wp2_with fail
        go_quiet ((go_at_call 22; exact Calls.quiet_of_same (in_qn _ m y _ HF.out _ _ (HR.out.step HBk.out))))
        go_wp2
        go_roundw
        case rel => exact ⟨k + 1, by omega, by go_num, HN2, HW.out.trans (below_drewN' _ _ _)⟩
        case measure => simp [intOf]; omega
      · have HF := Lib.hid hf
        have HA := Lib.hid (anyI_hit hlt hf)
        clear hf HN
        generalize CH.getD k 0 = y at *
        go_wp2_with fail
        go_quiet ((go_at_call 22; exact Calls.quiet_of_same (in_qn _ m y _ HF.out _ _ (HR.out.step HBk.out))))
        go_wp2
        go_ret
        exact ⟨ret_int (by rw [← HZ.out, hCH.out, HA.out]; rfl), HBk.out.trans (below_drewN' _ _ _)⟩
    · have HF := Lib.hid (anyI_none fun j hj => HN.out j (by omega))
      go_wp2
      go_ret
      exact ⟨ret_int (by rw [← HZ.out, hCH.out, HF.out, her.out]; rfl), HBk.out⟩
theorem rchk_any (key id tag r v x t u : Int) (vr sl : Value) (m : List Int) (l : List Cv) (w : World) (h : CvsAt w sl l) (hr : IntsAt w vr m) : Calls Try.prog 19 #[.int .i64 key, .agg #[vr], .agg #[.int .i64 id, sl, .int .i64 tag], .agg #[.int .i64 r, .int .i64 v, .int .i64 x, .int .i64 t], .int .i64 u] w fun e w' => e = .returned (.int .i64 (ckR key m id tag l r v x t u)) ∧ Below w.heap.size w w' := by
  cases h1 : stB m
  · have : ckR key m id tag l r v x t u = 1 := by unfold ckR; simp [h1]
    rw [this]
    exact rchk_bad1 key id tag r v x t u vr sl m l w h hr h1
  · by_cases h2 : ckV key id tag l r v x t u = 1
    · have : ckR key m id tag l r v x t u = 1 := by unfold ckR; simp [h1, h2]
      rw [this]
      exact rchk_bad2 key id tag r v x t u vr sl m l w h hr h1 h2
    · by_cases h3 : ckV key id tag l r v x t u = 15
      · have : ckR key m id tag l r v x t u = 15 := by unfold ckR; rw [if_pos h1, if_neg h2, ck_tag h3, h3]; rfl
        rw [this]
        exact rchk_bad3 key id tag r v x t u vr sl m l w h hr h1 h3
      · have : ckR key m id tag l r v x t u = if (chB key id tag l).any (inB m) then 21 else ckV key id tag l r v x t u := by unfold ckR; rw [if_pos h1, if_neg h2]
        rw [this]
        exact rchk_main key id tag r v x t u vr sl m l w h hr h1 h2 h3 _ rfl
end Go.Proofs.Ytpoldplmaomkaaa
