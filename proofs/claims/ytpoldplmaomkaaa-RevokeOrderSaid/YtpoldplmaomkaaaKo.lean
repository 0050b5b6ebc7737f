/- Capabilities: the reference's 'Permits'. -/
import Derived.Test.YtpoldplmaomkaaaKn
namespace Go.Proofs.Ytpoldplmaomkaaa
open Go.RowKit

/-- One value set. -/
def upw (vs : Nat → Value) (i : Nat) (x : Value) : Nat → Value := fun k => cond (k == i) x (vs k)
theorem up_wal {vs : Nat → Value} {bf : Nat → Bool} {val : List Value} (i : Nat) (h : ∀ k, bf k = true → vs k = val.getD k undef) {x : Value} (hx : val.getD i undef = x) : ∀ k, up bf i k = true → upw vs i x k = val.getD k undef := fun k hk => by
  unfold upw
  by_cases e : k = i
  · subst e; simp only [beq_self_eq_true, cond_true]; exact hx.symm
  · have : (k == i) = false := by simpa using e
    rw [this]
    exact h k (by unfold up at hk; rwa [if_neg e] at hk)
set_option maxRecDepth 100000 in
set_option maxHeartbeats 4000000 in
theorem rpermits_cap (id tag r v x t u : Int) (sl : Value) (l : List Cv) (w : World) (h : CvsAt w sl l) (hc : capB id tag l = false) : Calls Try.prog 48 #[.agg #[.int .i64 id, sl, .int .i64 tag], .agg #[.int .i64 r, .int .i64 v, .int .i64 x, .int .i64 t], .int .i64 u] w fun e w' => e = .returned (.int .i64 1) ∧ Below w.heap.size w w' := by
  have H := Lib.hid h
  obtain ⟨a, cap, rfl, -, -, -⟩ := h
  have HC := Lib.hid hc
  clear hc
  have HB0 := Lib.hid (Below.refl w.heap.size w)
  go_enter Try.func48, Try.ntmps48
  have KA_1 := Lib.hid (Cs.new w (w.heap.size) #[.int .i64 id, .slice a l.length cap, .int .i64 tag] 27 (by simp))
  have HB2 : Hid (Below w.heap.size w (w.alloc (.cells #[.int .i64 id, .slice a l.length cap, .int .i64 tag] 27))) := HB0.out.alloc HB0.out.size _
  clear HB0
  have KA_3 := Lib.hid (KA_1.out.alloc (.cells #[.int .i64 r, .int .i64 v, .int .i64 x, .int .i64 t] 29))
  clear KA_1
  have KK_4 := Lib.hid (Cs.new (w.alloc (.cells #[.int .i64 id, .slice a l.length cap, .int .i64 tag] 27)) (w.heap.size + 1) #[.int .i64 r, .int .i64 v, .int .i64 x, .int .i64 t] 29 (by simp))
  have HB5 : Hid (Below w.heap.size w ((w.alloc (.cells #[.int .i64 id, .slice a l.length cap, .int .i64 tag] 27)).alloc (.cells #[.int .i64 r, .int .i64 v, .int .i64 x, .int .i64 t] 29))) := HB2.out.alloc HB2.out.size _
  clear HB2
  have xA0 : ((w.alloc (.cells #[.int .i64 id, .slice a l.length cap, .int .i64 tag] 27)).alloc (.cells #[.int .i64 r, .int .i64 v, .int .i64 x, .int .i64 t] 29)).cell? ⟨w.heap.size, 0, none⟩ = some (.int .i64 id) := KA_3.out.c 0 rfl
  have xA1 : ((w.alloc (.cells #[.int .i64 id, .slice a l.length cap, .int .i64 tag] 27)).alloc (.cells #[.int .i64 r, .int .i64 v, .int .i64 x, .int .i64 t] 29)).cell? ⟨w.heap.size, 1, none⟩ = some (.slice a l.length cap) := KA_3.out.c 1 rfl
  have xA2 : ((w.alloc (.cells #[.int .i64 id, .slice a l.length cap, .int .i64 tag] 27)).alloc (.cells #[.int .i64 r, .int .i64 v, .int .i64 x, .int .i64 t] 29)).cell? ⟨w.heap.size, 2, none⟩ = some (.int .i64 tag) := KA_3.out.c 2 rfl
  have zA : w.heap.size < ((w.alloc (.cells #[.int .i64 id, .slice a l.length cap, .int .i64 tag] 27)).alloc (.cells #[.int .i64 r, .int .i64 v, .int .i64 x, .int .i64 t] 29)).heap.size := KA_3.out.2.2
  have z2A : w.heap.size < ((w.alloc (.cells #[.int .i64 id, .slice a l.length cap, .int .i64 tag] 27)).alloc (.cells #[.int .i64 r, .int .i64 v, .int .i64 x, .int .i64 t] 29)).heap.size + 1 := by omega
  have xK0 : ((w.alloc (.cells #[.int .i64 id, .slice a l.length cap, .int .i64 tag] 27)).alloc (.cells #[.int .i64 r, .int .i64 v, .int .i64 x, .int .i64 t] 29)).cell? ⟨w.heap.size + 1, 0, none⟩ = some (.int .i64 r) := KK_4.out.c 0 rfl
  have xK1 : ((w.alloc (.cells #[.int .i64 id, .slice a l.length cap, .int .i64 tag] 27)).alloc (.cells #[.int .i64 r, .int .i64 v, .int .i64 x, .int .i64 t] 29)).cell? ⟨w.heap.size + 1, 1, none⟩ = some (.int .i64 v) := KK_4.out.c 1 rfl
  have xK2 : ((w.alloc (.cells #[.int .i64 id, .slice a l.length cap, .int .i64 tag] 27)).alloc (.cells #[.int .i64 r, .int .i64 v, .int .i64 x, .int .i64 t] 29)).cell? ⟨w.heap.size + 1, 2, none⟩ = some (.int .i64 x) := KK_4.out.c 2 rfl
  have xK3 : ((w.alloc (.cells #[.int .i64 id, .slice a l.length cap, .int .i64 tag] 27)).alloc (.cells #[.int .i64 r, .int .i64 v, .int .i64 x, .int .i64 t] 29)).cell? ⟨w.heap.size + 1, 3, none⟩ = some (.int .i64 t) := KK_4.out.c 3 rfl
  have zK : w.heap.size + 1 < ((w.alloc (.cells #[.int .i64 id, .slice a l.length cap, .int .i64 tag] 27)).alloc (.cells #[.int .i64 r, .int .i64 v, .int .i64 x, .int .i64 t] 29)).heap.size := KK_4.out.2.2
  have z2K : w.heap.size + 1 < ((w.alloc (.cells #[.int .i64 id, .slice a l.length cap, .int .i64 tag] 27)).alloc (.cells #[.int .i64 r, .int .i64 v, .int .i64 x, .int .i64 t] 29)).heap.size + 1 := by omega
  go_wp2_with fail
  refine (rcap_any id tag _ l _ (H.out.step HB5.out)).mono ?_
  rintro e u1 ⟨rfl, b1⟩
  clear xA0 xA1 xA2 zA z2A xK0 xK1 xK2 xK3 zK z2K
  have KA_6 := Lib.hid (KA_3.out.step b1)
  clear KA_3
  have KK_7 := Lib.hid (KK_4.out.step b1)
  clear KK_4
  have HB8 := Lib.hid (keep2 b1 HB5.out)
  clear HB5 b1
  rw [HC.out]
  go_wp2
  go_ret
  exact ⟨rfl, HB8.out⟩
set_option maxRecDepth 100000 in
set_option maxHeartbeats 4000000 in
theorem rpermits_ask (id tag r v x t u : Int) (sl : Value) (l : List Cv) (w : World) (h : CvsAt w sl l) (hc : capB id tag l = true) (ha : asB r v x t = false) : Calls Try.prog 48 #[.agg #[.int .i64 id, sl, .int .i64 tag], .agg #[.int .i64 r, .int .i64 v, .int .i64 x, .int .i64 t], .int .i64 u] w fun e w' => e = .returned (.int .i64 1) ∧ Below w.heap.size w w' := by
  have H := Lib.hid h
  obtain ⟨a, cap, rfl, -, -, -⟩ := h
  have HC := Lib.hid hc
  have HA := Lib.hid ha
  clear hc ha
  have HB0 := Lib.hid (Below.refl w.heap.size w)
  go_enter Try.func48, Try.ntmps48
  have KA_1 := Lib.hid (Cs.new w (w.heap.size) #[.int .i64 id, .slice a l.length cap, .int .i64 tag] 27 (by simp))
  have HB2 : Hid (Below w.heap.size w (w.alloc (.cells #[.int .i64 id, .slice a l.length cap, .int .i64 tag] 27))) := HB0.out.alloc HB0.out.size _
  clear HB0
  have KA_3 := Lib.hid (KA_1.out.alloc (.cells #[.int .i64 r, .int .i64 v, .int .i64 x, .int .i64 t] 29))
  clear KA_1
  have KK_4 := Lib.hid (Cs.new (w.alloc (.cells #[.int .i64 id, .slice a l.length cap, .int .i64 tag] 27)) (w.heap.size + 1) #[.int .i64 r, .int .i64 v, .int .i64 x, .int .i64 t] 29 (by simp))
  have HB5 : Hid (Below w.heap.size w ((w.alloc (.cells #[.int .i64 id, .slice a l.length cap, .int .i64 tag] 27)).alloc (.cells #[.int .i64 r, .int .i64 v, .int .i64 x, .int .i64 t] 29))) := HB2.out.alloc HB2.out.size _
  clear HB2
  have xA0 : ((w.alloc (.cells #[.int .i64 id, .slice a l.length cap, .int .i64 tag] 27)).alloc (.cells #[.int .i64 r, .int .i64 v, .int .i64 x, .int .i64 t] 29)).cell? ⟨w.heap.size, 0, none⟩ = some (.int .i64 id) := KA_3.out.c 0 rfl
  have xA1 : ((w.alloc (.cells #[.int .i64 id, .slice a l.length cap, .int .i64 tag] 27)).alloc (.cells #[.int .i64 r, .int .i64 v, .int .i64 x, .int .i64 t] 29)).cell? ⟨w.heap.size, 1, none⟩ = some (.slice a l.length cap) := KA_3.out.c 1 rfl
  have xA2 : ((w.alloc (.cells #[.int .i64 id, .slice a l.length cap, .int .i64 tag] 27)).alloc (.cells #[.int .i64 r, .int .i64 v, .int .i64 x, .int .i64 t] 29)).cell? ⟨w.heap.size, 2, none⟩ = some (.int .i64 tag) := KA_3.out.c 2 rfl
  have zA : w.heap.size < ((w.alloc (.cells #[.int .i64 id, .slice a l.length cap, .int .i64 tag] 27)).alloc (.cells #[.int .i64 r, .int .i64 v, .int .i64 x, .int .i64 t] 29)).heap.size := KA_3.out.2.2
  have z2A : w.heap.size < ((w.alloc (.cells #[.int .i64 id, .slice a l.length cap, .int .i64 tag] 27)).alloc (.cells #[.int .i64 r, .int .i64 v, .int .i64 x, .int .i64 t] 29)).heap.size + 1 := by omega
  have xK0 : ((w.alloc (.cells #[.int .i64 id, .slice a l.length cap, .int .i64 tag] 27)).alloc (.cells #[.int .i64 r, .int .i64 v, .int .i64 x, .int .i64 t] 29)).cell? ⟨w.heap.size + 1, 0, none⟩ = some (.int .i64 r) := KK_4.out.c 0 rfl
  have xK1 : ((w.alloc (.cells #[.int .i64 id, .slice a l.length cap, .int .i64 tag] 27)).alloc (.cells #[.int .i64 r, .int .i64 v, .int .i64 x, .int .i64 t] 29)).cell? ⟨w.heap.size + 1, 1, none⟩ = some (.int .i64 v) := KK_4.out.c 1 rfl
  have xK2 : ((w.alloc (.cells #[.int .i64 id, .slice a l.length cap, .int .i64 tag] 27)).alloc (.cells #[.int .i64 r, .int .i64 v, .int .i64 x, .int .i64 t] 29)).cell? ⟨w.heap.size + 1, 2, none⟩ = some (.int .i64 x) := KK_4.out.c 2 rfl
  have xK3 : ((w.alloc (.cells #[.int .i64 id, .slice a l.length cap, .int .i64 tag] 27)).alloc (.cells #[.int .i64 r, .int .i64 v, .int .i64 x, .int .i64 t] 29)).cell? ⟨w.heap.size + 1, 3, none⟩ = some (.int .i64 t) := KK_4.out.c 3 rfl
  have zK : w.heap.size + 1 < ((w.alloc (.cells #[.int .i64 id, .slice a l.length cap, .int .i64 tag] 27)).alloc (.cells #[.int .i64 r, .int .i64 v, .int .i64 x, .int .i64 t] 29)).heap.size := KK_4.out.2.2
  have z2K : w.heap.size + 1 < ((w.alloc (.cells #[.int .i64 id, .slice a l.length cap, .int .i64 tag] 27)).alloc (.cells #[.int .i64 r, .int .i64 v, .int .i64 x, .int .i64 t] 29)).heap.size + 1 := by omega
  go_wp2_with fail
  refine (rcap_any id tag _ l _ (H.out.step HB5.out)).mono ?_
  rintro e u1 ⟨rfl, b1⟩
  clear xA0 xA1 xA2 zA z2A xK0 xK1 xK2 xK3 zK z2K
  have KA_6 := Lib.hid (KA_3.out.step b1)
  clear KA_3
  have KK_7 := Lib.hid (KK_4.out.step b1)
  clear KK_4
  have HB8 := Lib.hid (keep2 b1 HB5.out)
  clear HB5 b1
  rw [HC.out]
  have xK0 : u1.cell? ⟨w.heap.size + 1, 0, none⟩ = some (.int .i64 r) := KK_7.out.c 0 rfl
  have xK1 : u1.cell? ⟨w.heap.size + 1, 1, none⟩ = some (.int .i64 v) := KK_7.out.c 1 rfl
  have xK2 : u1.cell? ⟨w.heap.size + 1, 2, none⟩ = some (.int .i64 x) := KK_7.out.c 2 rfl
  have xK3 : u1.cell? ⟨w.heap.size + 1, 3, none⟩ = some (.int .i64 t) := KK_7.out.c 3 rfl
  have zK : w.heap.size + 1 < u1.heap.size := KK_7.out.2.2
  have z2K : w.heap.size + 1 < u1.heap.size + 1 := by omega
  go_wp2_with fail
  refine (rask_any r v x t _).mono ?_
  rintro e u2 ⟨rfl, b2⟩
  clear xK0 xK1 xK2 xK3 zK z2K
  have KA_9 := Lib.hid (KA_6.out.step b2)
  clear KA_6
  have KK_10 := Lib.hid (KK_7.out.step b2)
  clear KK_7
  have HB11 := Lib.hid (keep2 b2 HB8.out)
  clear HB8 b2
  rw [HA.out]
  go_wp2
  go_ret
  exact ⟨rfl, HB11.out⟩
set_option maxRecDepth 100000 in
set_option maxHeartbeats 4000000 in
theorem rpermits_used (id tag r v x t u : Int) (sl : Value) (l : List Cv) (w : World) (h : CvsAt w sl l) (hc : capB id tag l = true) (ha : asB r v x t = true) (hu : inr u 0 1000000000 = false) : Calls Try.prog 48 #[.agg #[.int .i64 id, sl, .int .i64 tag], .agg #[.int .i64 r, .int .i64 v, .int .i64 x, .int .i64 t], .int .i64 u] w fun e w' => e = .returned (.int .i64 1) ∧ Below w.heap.size w w' := by
  have H := Lib.hid h
  obtain ⟨a, cap, rfl, -, -, -⟩ := h
  have HC := Lib.hid hc
  have HA := Lib.hid ha
  have HU := Lib.hid hu
  clear hc ha hu
  have HB0 := Lib.hid (Below.refl w.heap.size w)
  go_enter Try.func48, Try.ntmps48
  have KA_1 := Lib.hid (Cs.new w (w.heap.size) #[.int .i64 id, .slice a l.length cap, .int .i64 tag] 27 (by simp))
  have HB2 : Hid (Below w.heap.size w (w.alloc (.cells #[.int .i64 id, .slice a l.length cap, .int .i64 tag] 27))) := HB0.out.alloc HB0.out.size _
  clear HB0
  have KA_3 := Lib.hid (KA_1.out.alloc (.cells #[.int .i64 r, .int .i64 v, .int .i64 x, .int .i64 t] 29))
  clear KA_1
  have KK_4 := Lib.hid (Cs.new (w.alloc (.cells #[.int .i64 id, .slice a l.length cap, .int .i64 tag] 27)) (w.heap.size + 1) #[.int .i64 r, .int .i64 v, .int .i64 x, .int .i64 t] 29 (by simp))
  have HB5 : Hid (Below w.heap.size w ((w.alloc (.cells #[.int .i64 id, .slice a l.length cap, .int .i64 tag] 27)).alloc (.cells #[.int .i64 r, .int .i64 v, .int .i64 x, .int .i64 t] 29))) := HB2.out.alloc HB2.out.size _
  clear HB2
  have xA0 : ((w.alloc (.cells #[.int .i64 id, .slice a l.length cap, .int .i64 tag] 27)).alloc (.cells #[.int .i64 r, .int .i64 v, .int .i64 x, .int .i64 t] 29)).cell? ⟨w.heap.size, 0, none⟩ = some (.int .i64 id) := KA_3.out.c 0 rfl
  have xA1 : ((w.alloc (.cells #[.int .i64 id, .slice a l.length cap, .int .i64 tag] 27)).alloc (.cells #[.int .i64 r, .int .i64 v, .int .i64 x, .int .i64 t] 29)).cell? ⟨w.heap.size, 1, none⟩ = some (.slice a l.length cap) := KA_3.out.c 1 rfl
  have xA2 : ((w.alloc (.cells #[.int .i64 id, .slice a l.length cap, .int .i64 tag] 27)).alloc (.cells #[.int .i64 r, .int .i64 v, .int .i64 x, .int .i64 t] 29)).cell? ⟨w.heap.size, 2, none⟩ = some (.int .i64 tag) := KA_3.out.c 2 rfl
  have zA : w.heap.size < ((w.alloc (.cells #[.int .i64 id, .slice a l.length cap, .int .i64 tag] 27)).alloc (.cells #[.int .i64 r, .int .i64 v, .int .i64 x, .int .i64 t] 29)).heap.size := KA_3.out.2.2
  have z2A : w.heap.size < ((w.alloc (.cells #[.int .i64 id, .slice a l.length cap, .int .i64 tag] 27)).alloc (.cells #[.int .i64 r, .int .i64 v, .int .i64 x, .int .i64 t] 29)).heap.size + 1 := by omega
  have xK0 : ((w.alloc (.cells #[.int .i64 id, .slice a l.length cap, .int .i64 tag] 27)).alloc (.cells #[.int .i64 r, .int .i64 v, .int .i64 x, .int .i64 t] 29)).cell? ⟨w.heap.size + 1, 0, none⟩ = some (.int .i64 r) := KK_4.out.c 0 rfl
  have xK1 : ((w.alloc (.cells #[.int .i64 id, .slice a l.length cap, .int .i64 tag] 27)).alloc (.cells #[.int .i64 r, .int .i64 v, .int .i64 x, .int .i64 t] 29)).cell? ⟨w.heap.size + 1, 1, none⟩ = some (.int .i64 v) := KK_4.out.c 1 rfl
  have xK2 : ((w.alloc (.cells #[.int .i64 id, .slice a l.length cap, .int .i64 tag] 27)).alloc (.cells #[.int .i64 r, .int .i64 v, .int .i64 x, .int .i64 t] 29)).cell? ⟨w.heap.size + 1, 2, none⟩ = some (.int .i64 x) := KK_4.out.c 2 rfl
  have xK3 : ((w.alloc (.cells #[.int .i64 id, .slice a l.length cap, .int .i64 tag] 27)).alloc (.cells #[.int .i64 r, .int .i64 v, .int .i64 x, .int .i64 t] 29)).cell? ⟨w.heap.size + 1, 3, none⟩ = some (.int .i64 t) := KK_4.out.c 3 rfl
  have zK : w.heap.size + 1 < ((w.alloc (.cells #[.int .i64 id, .slice a l.length cap, .int .i64 tag] 27)).alloc (.cells #[.int .i64 r, .int .i64 v, .int .i64 x, .int .i64 t] 29)).heap.size := KK_4.out.2.2
  have z2K : w.heap.size + 1 < ((w.alloc (.cells #[.int .i64 id, .slice a l.length cap, .int .i64 tag] 27)).alloc (.cells #[.int .i64 r, .int .i64 v, .int .i64 x, .int .i64 t] 29)).heap.size + 1 := by omega
  go_wp2_with fail
  refine (rcap_any id tag _ l _ (H.out.step HB5.out)).mono ?_
  rintro e u1 ⟨rfl, b1⟩
  clear xA0 xA1 xA2 zA z2A xK0 xK1 xK2 xK3 zK z2K
  have KA_6 := Lib.hid (KA_3.out.step b1)
  clear KA_3
  have KK_7 := Lib.hid (KK_4.out.step b1)
  clear KK_4
  have HB8 := Lib.hid (keep2 b1 HB5.out)
  clear HB5 b1
  rw [HC.out]
  have xK0 : u1.cell? ⟨w.heap.size + 1, 0, none⟩ = some (.int .i64 r) := KK_7.out.c 0 rfl
  have xK1 : u1.cell? ⟨w.heap.size + 1, 1, none⟩ = some (.int .i64 v) := KK_7.out.c 1 rfl
  have xK2 : u1.cell? ⟨w.heap.size + 1, 2, none⟩ = some (.int .i64 x) := KK_7.out.c 2 rfl
  have xK3 : u1.cell? ⟨w.heap.size + 1, 3, none⟩ = some (.int .i64 t) := KK_7.out.c 3 rfl
  have zK : w.heap.size + 1 < u1.heap.size := KK_7.out.2.2
  have z2K : w.heap.size + 1 < u1.heap.size + 1 := by omega
  go_wp2_with fail
  refine (rask_any r v x t _).mono ?_
  rintro e u2 ⟨rfl, b2⟩
  clear xK0 xK1 xK2 xK3 zK z2K
  have KA_9 := Lib.hid (KA_6.out.step b2)
  clear KA_6
  have KK_10 := Lib.hid (KK_7.out.step b2)
  clear KK_7
  have HB11 := Lib.hid (keep2 b2 HB8.out)
  clear HB8 b2
  rw [HA.out]
  go_wp2_with fail
  refine (between_q u 0 1000000000 _ HU.out _).mono ?_
  rintro e w' ⟨rfl, rfl⟩
  go_wp2
  go_ret
  exact ⟨rfl, HB11.out⟩
set_option maxRecDepth 100000 in
set_option maxHeartbeats 4000000 in
theorem rpermits_ok (id tag r v x t u : Int) (sl : Value) (l : List Cv) (w : World) (h : CvsAt w sl l) (hc : capB id tag l = true) (ha : asB r v x t = true) (hu : inr u 0 1000000000 = true) : Calls Try.prog 48 #[.agg #[.int .i64 id, sl, .int .i64 tag], .agg #[.int .i64 r, .int .i64 v, .int .i64 x, .int .i64 t], .int .i64 u] w fun e w' => e = .returned (.int .i64 (prL r v t u l)) ∧ Below w.heap.size w w' := by
  have H := Lib.hid h
  obtain ⟨a, cap, rfl, -, -, -⟩ := h
  have HC := Lib.hid hc
  have HA := Lib.hid ha
  have HU := Lib.hid hu
  have HN := Lib.hid (cap_len hc)
  clear hc ha hu
  have HB0 := Lib.hid (Below.refl w.heap.size w)
  go_enter Try.func48, Try.ntmps48
  have KA_1 := Lib.hid (Cs.new w (w.heap.size) #[.int .i64 id, .slice a l.length cap, .int .i64 tag] 27 (by simp))
  have HB2 : Hid (Below w.heap.size w (w.alloc (.cells #[.int .i64 id, .slice a l.length cap, .int .i64 tag] 27))) := HB0.out.alloc HB0.out.size _
  clear HB0
  have KA_3 := Lib.hid (KA_1.out.alloc (.cells #[.int .i64 r, .int .i64 v, .int .i64 x, .int .i64 t] 29))
  clear KA_1
  have KK_4 := Lib.hid (Cs.new (w.alloc (.cells #[.int .i64 id, .slice a l.length cap, .int .i64 tag] 27)) (w.heap.size + 1) #[.int .i64 r, .int .i64 v, .int .i64 x, .int .i64 t] 29 (by simp))
  have HB5 : Hid (Below w.heap.size w ((w.alloc (.cells #[.int .i64 id, .slice a l.length cap, .int .i64 tag] 27)).alloc (.cells #[.int .i64 r, .int .i64 v, .int .i64 x, .int .i64 t] 29))) := HB2.out.alloc HB2.out.size _
  clear HB2
  have xA0 : ((w.alloc (.cells #[.int .i64 id, .slice a l.length cap, .int .i64 tag] 27)).alloc (.cells #[.int .i64 r, .int .i64 v, .int .i64 x, .int .i64 t] 29)).cell? ⟨w.heap.size, 0, none⟩ = some (.int .i64 id) := KA_3.out.c 0 rfl
  have xA1 : ((w.alloc (.cells #[.int .i64 id, .slice a l.length cap, .int .i64 tag] 27)).alloc (.cells #[.int .i64 r, .int .i64 v, .int .i64 x, .int .i64 t] 29)).cell? ⟨w.heap.size, 1, none⟩ = some (.slice a l.length cap) := KA_3.out.c 1 rfl
  have xA2 : ((w.alloc (.cells #[.int .i64 id, .slice a l.length cap, .int .i64 tag] 27)).alloc (.cells #[.int .i64 r, .int .i64 v, .int .i64 x, .int .i64 t] 29)).cell? ⟨w.heap.size, 2, none⟩ = some (.int .i64 tag) := KA_3.out.c 2 rfl
  have zA : w.heap.size < ((w.alloc (.cells #[.int .i64 id, .slice a l.length cap, .int .i64 tag] 27)).alloc (.cells #[.int .i64 r, .int .i64 v, .int .i64 x, .int .i64 t] 29)).heap.size := KA_3.out.2.2
  have z2A : w.heap.size < ((w.alloc (.cells #[.int .i64 id, .slice a l.length cap, .int .i64 tag] 27)).alloc (.cells #[.int .i64 r, .int .i64 v, .int .i64 x, .int .i64 t] 29)).heap.size + 1 := by omega
  have xK0 : ((w.alloc (.cells #[.int .i64 id, .slice a l.length cap, .int .i64 tag] 27)).alloc (.cells #[.int .i64 r, .int .i64 v, .int .i64 x, .int .i64 t] 29)).cell? ⟨w.heap.size + 1, 0, none⟩ = some (.int .i64 r) := KK_4.out.c 0 rfl
  have xK1 : ((w.alloc (.cells #[.int .i64 id, .slice a l.length cap, .int .i64 tag] 27)).alloc (.cells #[.int .i64 r, .int .i64 v, .int .i64 x, .int .i64 t] 29)).cell? ⟨w.heap.size + 1, 1, none⟩ = some (.int .i64 v) := KK_4.out.c 1 rfl
  have xK2 : ((w.alloc (.cells #[.int .i64 id, .slice a l.length cap, .int .i64 tag] 27)).alloc (.cells #[.int .i64 r, .int .i64 v, .int .i64 x, .int .i64 t] 29)).cell? ⟨w.heap.size + 1, 2, none⟩ = some (.int .i64 x) := KK_4.out.c 2 rfl
  have xK3 : ((w.alloc (.cells #[.int .i64 id, .slice a l.length cap, .int .i64 tag] 27)).alloc (.cells #[.int .i64 r, .int .i64 v, .int .i64 x, .int .i64 t] 29)).cell? ⟨w.heap.size + 1, 3, none⟩ = some (.int .i64 t) := KK_4.out.c 3 rfl
  have zK : w.heap.size + 1 < ((w.alloc (.cells #[.int .i64 id, .slice a l.length cap, .int .i64 tag] 27)).alloc (.cells #[.int .i64 r, .int .i64 v, .int .i64 x, .int .i64 t] 29)).heap.size := KK_4.out.2.2
  have z2K : w.heap.size + 1 < ((w.alloc (.cells #[.int .i64 id, .slice a l.length cap, .int .i64 tag] 27)).alloc (.cells #[.int .i64 r, .int .i64 v, .int .i64 x, .int .i64 t] 29)).heap.size + 1 := by omega
  go_wp2_with fail
  refine (rcap_any id tag _ l _ (H.out.step HB5.out)).mono ?_
  rintro e u1 ⟨rfl, b1⟩
  clear xA0 xA1 xA2 zA z2A xK0 xK1 xK2 xK3 zK z2K
  have KA_6 := Lib.hid (KA_3.out.step b1)
  clear KA_3
  have KK_7 := Lib.hid (KK_4.out.step b1)
  clear KK_4
  have HB8 := Lib.hid (keep2 b1 HB5.out)
  clear HB5 b1
  rw [HC.out]
  have xK0 : u1.cell? ⟨w.heap.size + 1, 0, none⟩ = some (.int .i64 r) := KK_7.out.c 0 rfl
  have xK1 : u1.cell? ⟨w.heap.size + 1, 1, none⟩ = some (.int .i64 v) := KK_7.out.c 1 rfl
  have xK2 : u1.cell? ⟨w.heap.size + 1, 2, none⟩ = some (.int .i64 x) := KK_7.out.c 2 rfl
  have xK3 : u1.cell? ⟨w.heap.size + 1, 3, none⟩ = some (.int .i64 t) := KK_7.out.c 3 rfl
  have zK : w.heap.size + 1 < u1.heap.size := KK_7.out.2.2
  have z2K : w.heap.size + 1 < u1.heap.size + 1 := by omega
  go_wp2_with fail
  refine (rask_any r v x t _).mono ?_
  rintro e u2 ⟨rfl, b2⟩
  clear xK0 xK1 xK2 xK3 zK z2K
  have KA_9 := Lib.hid (KA_6.out.step b2)
  clear KA_6
  have KK_10 := Lib.hid (KK_7.out.step b2)
  clear KK_7
  have HB11 := Lib.hid (keep2 b2 HB8.out)
  clear HB8 b2
  rw [HA.out]
  go_wp2_with fail
  refine (between_q u 0 1000000000 _ HU.out _).mono ?_
  rintro e w' ⟨rfl, rfl⟩
  go_wp2_with fail
  go_loopw [7] (fun i wr => ∃ k : Nat, k ≤ l.length ∧ i = .int .i64 k ∧ Hid (∀ j, j < k → ckE r v t u (l.getD j zC).k (l.getD j zC).v = 0) ∧ Hid (Below u2.heap.size u2 wr)) (fun i _ => l.length - (intOf i).toNat)
  case atStart => exact ⟨0, by omega, rfl, fun j h => absurd h (by omega), Below.refl _ _⟩
  case round =>
    obtain ⟨k, hk, rfl, HF, HW⟩ := hrel
    have KA1 := Lib.hid (KA_9.out.step HW.out)
    have KK1 := Lib.hid (KK_10.out.step HW.out)
    have y1 := KA1.out.c 1 rfl
    have yz := KA1.out.2.2
    by_cases hlt : k < l.length
    · obtain ⟨a2, cap2, hva, -, -, hcs⟩ := H.out.step (HB11.out.trans (HW.out.mono HB11.out.size))
      obtain ⟨rfl, rfl⟩ : a = a2 ∧ cap = cap2 := by simpa using hva
      obtain ⟨b, off, rfl, hcs2⟩ := hcs (by intro h; rw [h] at hlt; simp at hlt)
      obtain ⟨x0, x1⟩ := hcs2 k _ (cv_get hlt)
      clear hcs hcs2 hva
      have HK1 := Lib.hid (show k + 1 ≤ l.length from hlt)
      have hkd := Lib.hid (cap_kind HC.out hlt)
      have HH := Lib.hid (prL_hit (r := r) (v := v) (t := t) (u := u) hlt HF.out)
      have HF2 := Lib.hid (show ckE r v t u (l.getD k zC).k (l.getD k zC).v = 0 → ∀ j, j < k + 1 → ckE r v t u (l.getD j zC).k (l.getD j zC).v = 0 from fun h0 j hj => by
        by_cases e : j = k
        · subst e; exact h0
        · exact HF.out j (by omega))
      clear HF
      generalize l.getD k zC = c at *
      obtain ⟨ck, cz⟩ := c
      simp only at x0 x1 hkd HH HF2
      have xb := World.block_lt_of_cell? _ _ x0
      have xb : b < wr.heap.size := xb
      have n0 := KK1.out.c 0 rfl
      have n1 := KK1.out.c 1 rfl
      have n2 := KK1.out.c 2 rfl
      have n3 := KK1.out.c 3 rfl
      have nz := KK1.out.2.2
      have HO := Lib.hid (fun w => one_any r v x t u ck cz w hkd.out)
      obtain ⟨er, her⟩ : ∃ er, ckE r v t u ck cz = er := ⟨_, rfl⟩
      rw [her] at HH HF2 HO
      clear her
      have hn12 := HN.out
      have hk12 := HK1.out
      by_cases h0 : er = 0
      · subst h0
        have HF3 := Lib.hid (HF2.out rfl)
        go_wp2_with fail
        obtain ⟨lit, hlit⟩ : ∃ lit : (Nat → Value) → Act, lit = fun vs => { tmps := #[Value.agg #[Value.int IntKind.i64 id, Value.slice (some { block := b, off := off }) l.length cap, Value.int IntKind.i64 tag], Value.agg #[Value.int IntKind.i64 r, Value.int IntKind.i64 v, Value.int IntKind.i64 x, Value.int IntKind.i64 t], Value.int IntKind.i64 u, Value.pointer (some { block := w.heap.size, off := 0 }), Value.pointer (some { block := w.heap.size + 1, off := 0 }), undef, u6, Value.int IntKind.i64 (k : Int), vs 8, Value.agg #[Value.int IntKind.i64 id, Value.slice (some { block := b, off := off }) l.length cap, Value.int IntKind.i64 tag], Value.bool true, Value.bool false, Value.bool false, Value.agg #[Value.int IntKind.i64 r, Value.int IntKind.i64 v, Value.int IntKind.i64 x, Value.int IntKind.i64 t], Value.bool true, Value.bool false, Value.bool false, Value.bool false, Value.int IntKind.i64 u, Value.bool true, Value.bool false, Value.bool false, Value.int IntKind.i64 (k : Int), Value.pointer (some { block := w.heap.size, off := 1 }), Value.slice (some { block := b, off := off }) l.length cap, Value.int IntKind.i64 (l.length : Int), Value.bool true, u27, u28, vs 0, vs 1, vs 2, vs 3, vs 4, vs 5, vs 6, vs 7, u37, u38, u39], defers := [] } := ⟨_, rfl⟩
        have HLIT := Lib.hid hlit
        clear hlit
        obtain ⟨val, hval⟩ : ∃ val : List Value, val = [.pointer (some ⟨w.heap.size, 1, none⟩), .slice (some ⟨b, off, none⟩) l.length cap, .int .i64 k, .pointer (some ⟨b, off + k * 2, none⟩), .agg #[.int .i64 ck, .int .i64 cz], .agg #[.int .i64 r, .int .i64 v, .int .i64 x, .int .i64 t], .int .i64 u, .int .i64 0, .int .i64 0] := ⟨_, rfl⟩
        have E0 := Lib.hid (show val.getD 0 undef = .pointer (some ⟨w.heap.size, 1, none⟩) by rw [hval]; rfl)
        have E1 := Lib.hid (show val.getD 1 undef = .slice (some ⟨b, off, none⟩) l.length cap by rw [hval]; rfl)
        have E2 := Lib.hid (show val.getD 2 undef = .int .i64 k by rw [hval]; rfl)
        have E3 := Lib.hid (show val.getD 3 undef = .pointer (some ⟨b, off + k * 2, none⟩) by rw [hval]; rfl)
        have E4 := Lib.hid (show val.getD 4 undef = .agg #[.int .i64 ck, .int .i64 cz] by rw [hval]; rfl)
        have E5 := Lib.hid (show val.getD 5 undef = .agg #[.int .i64 r, .int .i64 v, .int .i64 x, .int .i64 t] by rw [hval]; rfl)
        have E6 := Lib.hid (show val.getD 6 undef = .int .i64 u by rw [hval]; rfl)
        have E7 := Lib.hid (show val.getD 7 undef = .int .i64 0 by rw [hval]; rfl)
        have E8 := Lib.hid (show val.getD 8 undef = .int .i64 0 by rw [hval]; rfl)
        clear hval
        refine region_inv (fun bf ac wv => ∃ vs : Nat → Value, ac = lit vs ∧ Below wr.heap.size wr wv ∧ ∀ i, bf i = true → vs i = val.getD i undef) (by kernel_rfl) (by decide +kernel) ?_ ?_ ?_
        · exact ⟨fun i => ([u29, u30, u31, u32, u33, u34, u35, u36, u8] : List Value).getD i undef, (by rw [HLIT.out]; rfl), below_drew _ _, fun i h => by cases h⟩
        · refine ⟨?_, ?_, ?_, ?_, ?_, ?_, ?_, ?_, ?_, trivial⟩
          · intro bf ac wv hfb haf hJ K' hK
            obtain ⟨vs, rfl, hM, hG⟩ := hJ
            replace hK := Lib.hid hK
            replace hM := Lib.hid hM
            replace hG := Lib.hid hG
            clear haf
            clear hfb
            rw [HLIT.out]
            go_simp
            exact hK.out _ _ ⟨(upw vs 0 (.pointer (some ⟨w.heap.size, 1, none⟩))), (by rw [HLIT.out]; rfl), hM.out, up_wal 0 hG.out E0.out⟩
          · intro bf ac wv hfb haf hJ K' hK
            obtain ⟨vs, rfl, hM, hG⟩ := hJ
            replace hK := Lib.hid hK
            replace hM := Lib.hid hM
            simp [Region.binds] at haf
            have e0 := (hG 0 (by simp [haf])).trans E0.out
            replace hG := Lib.hid hG
            clear haf
            clear hfb
            rw [HLIT.out]
            have KA2 := KA1.out.step hM.out
            have ya1 := KA2.c 1 rfl
            have yaz := KA2.2.2
            clear KA2
            go_simp
            exact hK.out _ _ ⟨(upw vs 1 (.slice (some ⟨b, off, none⟩) l.length cap)), (by rw [HLIT.out]; simp only [upw, e0, Nat.reduceBEq, cond_true, cond_false]), hM.out, up_wal 1 hG.out E1.out⟩
          · intro bf ac wv hfb haf hJ K' hK
            obtain ⟨vs, rfl, hM, hG⟩ := hJ
            replace hK := Lib.hid hK
            replace hM := Lib.hid hM
            replace hG := Lib.hid hG
            clear haf
            clear hfb
            rw [HLIT.out]
            go_simp
            exact hK.out _ _ ⟨(upw vs 2 (.int .i64 k)), (by rw [HLIT.out]; rfl), hM.out, up_wal 2 hG.out E2.out⟩
          · intro bf ac wv hfb haf hJ K' hK
            obtain ⟨vs, rfl, hM, hG⟩ := hJ
            replace hK := Lib.hid hK
            replace hM := Lib.hid hM
            simp [Region.binds] at haf
            have e1 := (hG 1 (by simp [haf])).trans E1.out
            have e2 := (hG 2 (by simp [haf])).trans E2.out
            replace hG := Lib.hid hG
            clear haf
            clear hfb
            rw [HLIT.out]
            go_simp
            exact hK.out _ _ ⟨(upw vs 3 (.pointer (some ⟨b, off + k * 2, none⟩))), (by rw [HLIT.out]; simp only [upw, e1, e2, Nat.reduceBEq, cond_true, cond_false]), hM.out, up_wal 3 hG.out E3.out⟩
          · intro bf ac wv hfb haf hJ K' hK
            obtain ⟨vs, rfl, hM, hG⟩ := hJ
            replace hK := Lib.hid hK
            replace hM := Lib.hid hM
            simp [Region.binds] at haf
            have e3 := (hG 3 (by simp [haf])).trans E3.out
            replace hG := Lib.hid hG
            clear haf
            clear hfb
            rw [HLIT.out]
            have xg0 := keep1 hM.out x0
            have xg1 := keep1 hM.out x1
            have xgz := World.block_lt_of_cell? _ _ xg0
            have xgz : b < wv.heap.size := xgz
            go_simp
            exact hK.out _ _ ⟨(upw vs 4 (.agg #[.int .i64 ck, .int .i64 cz])), (by rw [HLIT.out]; simp only [upw, e3, Nat.reduceBEq, cond_true, cond_false]), hM.out, up_wal 4 hG.out E4.out⟩
          · intro bf ac wv hfb haf hJ K' hK
            obtain ⟨vs, rfl, hM, hG⟩ := hJ
            replace hK := Lib.hid hK
            replace hM := Lib.hid hM
            replace hG := Lib.hid hG
            clear haf
            clear hfb
            rw [HLIT.out]
            have KK2 := KK1.out.step hM.out
            have nn0 := KK2.c 0 rfl
            have nn1 := KK2.c 1 rfl
            have nn2 := KK2.c 2 rfl
            have nn3 := KK2.c 3 rfl
            have nnz := KK2.2.2
            clear KK2
            go_simp
            exact hK.out _ _ ⟨(upw vs 5 (.agg #[.int .i64 r, .int .i64 v, .int .i64 x, .int .i64 t])), (by rw [HLIT.out]; rfl), hM.out, up_wal 5 hG.out E5.out⟩
          · intro bf ac wv hfb haf hJ K' hK
            obtain ⟨vs, rfl, hM, hG⟩ := hJ
            replace hK := Lib.hid hK
            replace hM := Lib.hid hM
            replace hG := Lib.hid hG
            clear haf
            clear hfb
            rw [HLIT.out]
            go_simp
            exact hK.out _ _ ⟨(upw vs 6 (.int .i64 u)), (by rw [HLIT.out]; rfl), hM.out, up_wal 6 hG.out E6.out⟩
          · intro bf ac wv hfb haf hJ K' hK
            obtain ⟨vs, rfl, hM, hG⟩ := hJ
            replace hK := Lib.hid hK
            replace hM := Lib.hid hM
            simp [Region.binds] at haf
            have e4 := (hG 4 (by simp [haf])).trans E4.out
            have e5 := (hG 5 (by simp [haf])).trans E5.out
            have e6 := (hG 6 (by simp [haf])).trans E6.out
            replace hG := Lib.hid hG
            clear haf
            clear hfb
            rw [HLIT.out]
            go_simp
            go_at_call 67
            refine (HO.out _).mono ?_
            rintro e w4 ⟨rfl, b4⟩
            exact hK.out _ _ ⟨(upw vs 7 (.int .i64 0)), (by rw [HLIT.out]; simp only [upw, e4, e5, e6, Nat.reduceBEq, cond_true, cond_false]), (keep2 b4 hM.out), up_wal 7 hG.out E7.out⟩
          · intro bf ac wv hfb haf hJ K' hK
            obtain ⟨vs, rfl, hM, hG⟩ := hJ
            replace hK := Lib.hid hK
            replace hM := Lib.hid hM
            simp [Region.binds] at haf
            have e7 := (hG 7 (by simp [haf])).trans E7.out
            replace hG := Lib.hid hG
            clear haf
            clear hfb
            rw [HLIT.out]
            go_simp
            exact hK.out _ _ ⟨(upw vs 8 (.int .i64 0)), (by rw [HLIT.out]; simp only [upw, e7, Nat.reduceBEq, cond_true, cond_false]), hM.out, up_wal 8 hG.out E8.out⟩
        · intro bf ac wv hall hJ
          obtain ⟨vs, rfl, hM, hG⟩ := hJ
          have e8 := (hG 8 (hall 8 (by decide))).trans E8.out
          have HM9 := Lib.hid (HW.out.trans (hM.mono HW.out.size))
          clear hM hall hG
          rw [HLIT.out]
          dsimp only
          rw [e8]
          go_wp2
          go_roundw
          case rel => exact ⟨k + 1, HK1.out, by go_num, HF3, HM9⟩
          case measure => have := HK1.out; simp [intOf]; omega
      · have q1 : (er != 0) = true := by simpa using h0
        have q2 : (er == 0) = false := by simpa using h0
        have q3 : decide (er = 0) = false := by simpa using h0
        have HH3 := Lib.hid (HH.out h0)
        clear h0
        go_wp2_with fail
        obtain ⟨lit, hlit⟩ : ∃ lit : (Nat → Value) → Act, lit = fun vs => { tmps := #[Value.agg #[Value.int IntKind.i64 id, Value.slice (some { block := b, off := off }) l.length cap, Value.int IntKind.i64 tag], Value.agg #[Value.int IntKind.i64 r, Value.int IntKind.i64 v, Value.int IntKind.i64 x, Value.int IntKind.i64 t], Value.int IntKind.i64 u, Value.pointer (some { block := w.heap.size, off := 0 }), Value.pointer (some { block := w.heap.size + 1, off := 0 }), undef, u6, Value.int IntKind.i64 (k : Int), vs 8, Value.agg #[Value.int IntKind.i64 id, Value.slice (some { block := b, off := off }) l.length cap, Value.int IntKind.i64 tag], Value.bool true, Value.bool false, Value.bool false, Value.agg #[Value.int IntKind.i64 r, Value.int IntKind.i64 v, Value.int IntKind.i64 x, Value.int IntKind.i64 t], Value.bool true, Value.bool false, Value.bool false, Value.bool false, Value.int IntKind.i64 u, Value.bool true, Value.bool false, Value.bool false, Value.int IntKind.i64 (k : Int), Value.pointer (some { block := w.heap.size, off := 1 }), Value.slice (some { block := b, off := off }) l.length cap, Value.int IntKind.i64 (l.length : Int), Value.bool true, u27, u28, vs 0, vs 1, vs 2, vs 3, vs 4, vs 5, vs 6, vs 7, u37, u38, u39], defers := [] } := ⟨_, rfl⟩
        have HLIT := Lib.hid hlit
        clear hlit
        obtain ⟨val, hval⟩ : ∃ val : List Value, val = [.pointer (some ⟨w.heap.size, 1, none⟩), .slice (some ⟨b, off, none⟩) l.length cap, .int .i64 k, .pointer (some ⟨b, off + k * 2, none⟩), .agg #[.int .i64 ck, .int .i64 cz], .agg #[.int .i64 r, .int .i64 v, .int .i64 x, .int .i64 t], .int .i64 u, .int .i64 er, .int .i64 er] := ⟨_, rfl⟩
        have E0 := Lib.hid (show val.getD 0 undef = .pointer (some ⟨w.heap.size, 1, none⟩) by rw [hval]; rfl)
        have E1 := Lib.hid (show val.getD 1 undef = .slice (some ⟨b, off, none⟩) l.length cap by rw [hval]; rfl)
        have E2 := Lib.hid (show val.getD 2 undef = .int .i64 k by rw [hval]; rfl)
        have E3 := Lib.hid (show val.getD 3 undef = .pointer (some ⟨b, off + k * 2, none⟩) by rw [hval]; rfl)
        have E4 := Lib.hid (show val.getD 4 undef = .agg #[.int .i64 ck, .int .i64 cz] by rw [hval]; rfl)
        have E5 := Lib.hid (show val.getD 5 undef = .agg #[.int .i64 r, .int .i64 v, .int .i64 x, .int .i64 t] by rw [hval]; rfl)
        have E6 := Lib.hid (show val.getD 6 undef = .int .i64 u by rw [hval]; rfl)
        have E7 := Lib.hid (show val.getD 7 undef = .int .i64 er by rw [hval]; rfl)
        have E8 := Lib.hid (show val.getD 8 undef = .int .i64 er by rw [hval]; rfl)
        clear hval
        refine region_inv (fun bf ac wv => ∃ vs : Nat → Value, ac = lit vs ∧ Below wr.heap.size wr wv ∧ ∀ i, bf i = true → vs i = val.getD i undef) (by kernel_rfl) (by decide +kernel) ?_ ?_ ?_
        · exact ⟨fun i => ([u29, u30, u31, u32, u33, u34, u35, u36, u8] : List Value).getD i undef, (by rw [HLIT.out]; rfl), below_drew _ _, fun i h => by cases h⟩
        · refine ⟨?_, ?_, ?_, ?_, ?_, ?_, ?_, ?_, ?_, trivial⟩
          · intro bf ac wv hfb haf hJ K' hK
            obtain ⟨vs, rfl, hM, hG⟩ := hJ
            replace hK := Lib.hid hK
            replace hM := Lib.hid hM
            replace hG := Lib.hid hG
            clear haf
            clear hfb
            rw [HLIT.out]
            go_simp
            exact hK.out _ _ ⟨(upw vs 0 (.pointer (some ⟨w.heap.size, 1, none⟩))), (by rw [HLIT.out]; rfl), hM.out, up_wal 0 hG.out E0.out⟩
          · intro bf ac wv hfb haf hJ K' hK
            obtain ⟨vs, rfl, hM, hG⟩ := hJ
            replace hK := Lib.hid hK
            replace hM := Lib.hid hM
            simp [Region.binds] at haf
            have e0 := (hG 0 (by simp [haf])).trans E0.out
            replace hG := Lib.hid hG
            clear haf
            clear hfb
            rw [HLIT.out]
            have KA2 := KA1.out.step hM.out
            have ya1 := KA2.c 1 rfl
            have yaz := KA2.2.2
            clear KA2
            go_simp
            exact hK.out _ _ ⟨(upw vs 1 (.slice (some ⟨b, off, none⟩) l.length cap)), (by rw [HLIT.out]; simp only [upw, e0, Nat.reduceBEq, cond_true, cond_false]), hM.out, up_wal 1 hG.out E1.out⟩
          · intro bf ac wv hfb haf hJ K' hK
            obtain ⟨vs, rfl, hM, hG⟩ := hJ
            replace hK := Lib.hid hK
            replace hM := Lib.hid hM
            replace hG := Lib.hid hG
            clear haf
            clear hfb
            rw [HLIT.out]
            go_simp
            exact hK.out _ _ ⟨(upw vs 2 (.int .i64 k)), (by rw [HLIT.out]; rfl), hM.out, up_wal 2 hG.out E2.out⟩
          · intro bf ac wv hfb haf hJ K' hK
            obtain ⟨vs, rfl, hM, hG⟩ := hJ
            replace hK := Lib.hid hK
            replace hM := Lib.hid hM
            simp [Region.binds] at haf
            have e1 := (hG 1 (by simp [haf])).trans E1.out
            have e2 := (hG 2 (by simp [haf])).trans E2.out
            replace hG := Lib.hid hG
            clear haf
            clear hfb
            rw [HLIT.out]
            go_simp
            exact hK.out _ _ ⟨(upw vs 3 (.pointer (some ⟨b, off + k * 2, none⟩))), (by rw [HLIT.out]; simp only [upw, e1, e2, Nat.reduceBEq, cond_true, cond_false]), hM.out, up_wal 3 hG.out E3.out⟩
          · intro bf ac wv hfb haf hJ K' hK
            obtain ⟨vs, rfl, hM, hG⟩ := hJ
            replace hK := Lib.hid hK
            replace hM := Lib.hid hM
            simp [Region.binds] at haf
            have e3 := (hG 3 (by simp [haf])).trans E3.out
            replace hG := Lib.hid hG
            clear haf
            clear hfb
            rw [HLIT.out]
            have xg0 := keep1 hM.out x0
            have xg1 := keep1 hM.out x1
            have xgz := World.block_lt_of_cell? _ _ xg0
            have xgz : b < wv.heap.size := xgz
            go_simp
            exact hK.out _ _ ⟨(upw vs 4 (.agg #[.int .i64 ck, .int .i64 cz])), (by rw [HLIT.out]; simp only [upw, e3, Nat.reduceBEq, cond_true, cond_false]), hM.out, up_wal 4 hG.out E4.out⟩
          · intro bf ac wv hfb haf hJ K' hK
            obtain ⟨vs, rfl, hM, hG⟩ := hJ
            replace hK := Lib.hid hK
            replace hM := Lib.hid hM
            replace hG := Lib.hid hG
            clear haf
            clear hfb
            rw [HLIT.out]
            have KK2 := KK1.out.step hM.out
            have nn0 := KK2.c 0 rfl
            have nn1 := KK2.c 1 rfl
            have nn2 := KK2.c 2 rfl
            have nn3 := KK2.c 3 rfl
            have nnz := KK2.2.2
            clear KK2
            go_simp
            exact hK.out _ _ ⟨(upw vs 5 (.agg #[.int .i64 r, .int .i64 v, .int .i64 x, .int .i64 t])), (by rw [HLIT.out]; rfl), hM.out, up_wal 5 hG.out E5.out⟩
          · intro bf ac wv hfb haf hJ K' hK
            obtain ⟨vs, rfl, hM, hG⟩ := hJ
            replace hK := Lib.hid hK
            replace hM := Lib.hid hM
            replace hG := Lib.hid hG
            clear haf
            clear hfb
            rw [HLIT.out]
            go_simp
            exact hK.out _ _ ⟨(upw vs 6 (.int .i64 u)), (by rw [HLIT.out]; rfl), hM.out, up_wal 6 hG.out E6.out⟩
          · intro bf ac wv hfb haf hJ K' hK
            obtain ⟨vs, rfl, hM, hG⟩ := hJ
            replace hK := Lib.hid hK
            replace hM := Lib.hid hM
            simp [Region.binds] at haf
            have e4 := (hG 4 (by simp [haf])).trans E4.out
            have e5 := (hG 5 (by simp [haf])).trans E5.out
            have e6 := (hG 6 (by simp [haf])).trans E6.out
            replace hG := Lib.hid hG
            clear haf
            clear hfb
            rw [HLIT.out]
            go_simp
            go_at_call 67
            refine (HO.out _).mono ?_
            rintro e w4 ⟨rfl, b4⟩
            exact hK.out _ _ ⟨(upw vs 7 (.int .i64 er)), (by rw [HLIT.out]; simp only [upw, e4, e5, e6, Nat.reduceBEq, cond_true, cond_false]), (keep2 b4 hM.out), up_wal 7 hG.out E7.out⟩
          · intro bf ac wv hfb haf hJ K' hK
            obtain ⟨vs, rfl, hM, hG⟩ := hJ
            replace hK := Lib.hid hK
            replace hM := Lib.hid hM
            simp [Region.binds] at haf
            have e7 := (hG 7 (by simp [haf])).trans E7.out
            replace hG := Lib.hid hG
            clear haf
            clear hfb
            rw [HLIT.out]
            go_simp
            exact hK.out _ _ ⟨(upw vs 8 (.int .i64 er)), (by rw [HLIT.out]; simp only [upw, e7, Nat.reduceBEq, cond_true, cond_false]), hM.out, up_wal 8 hG.out E8.out⟩
        · intro bf ac wv hall hJ
          obtain ⟨vs, rfl, hM, hG⟩ := hJ
          have e8 := (hG 8 (hall 8 (by decide))).trans E8.out
          have HM9 := Lib.hid (HW.out.trans (hM.mono HW.out.size))
          clear hM hall hG
          rw [HLIT.out]
          dsimp only
          rw [e8]
          go_wp2
          go_ret
          exact ⟨ret_int HH3.out.symm, keep2 HM9.out HB11.out⟩
    · obtain rfl : k = l.length := by omega
      have HP := Lib.hid (prL_all HF.out)
      go_wp2
      go_ret
      exact ⟨ret_int HP.out.symm, keep2 HW.out HB11.out⟩
end Go.Proofs.Ytpoldplmaomkaaa
