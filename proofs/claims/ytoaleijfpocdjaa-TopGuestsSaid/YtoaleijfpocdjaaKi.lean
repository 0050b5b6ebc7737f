/- Capabilities: 'Permits', 'Check'. -/
import Derived.Test.YtoaleijfpocdjaaKh
import Derived.Test.YtoaleijfpocdjaaIv
import Derived.Laws.EntriesVeiled
namespace Go.Proofs.Ytoaleijfpocdjaa
open Go.RowKit

theorem prL_drop {r v t u : Int} {l : List Cv} {k : Nat} (hk : k ≤ l.length) (h : ∀ j, j < k → ckE r v t u (l.getD j zC).k (l.getD j zC).v = 0) : prL r v t u l = prL r v t u (l.drop k) := by
  induction k with
  | zero => rfl
  | succ k ih =>
    rw [ih (by omega) fun j hj => h j (by omega), List.drop_eq_getElem_cons (show k < l.length by omega), prL]
    have := h k (by omega)
    rw [show l.getD k zC = l[k] by simp [show k < l.length by omega]] at this
    rw [if_pos this]
theorem prL_hit {r v t u : Int} {l : List Cv} {k : Nat} (hk : k < l.length) (h : ∀ j, j < k → ckE r v t u (l.getD j zC).k (l.getD j zC).v = 0) (hn : ckE r v t u (l.getD k zC).k (l.getD k zC).v ≠ 0) : prL r v t u l = ckE r v t u (l.getD k zC).k (l.getD k zC).v := by
  rw [prL_drop (by omega) h, List.drop_eq_getElem_cons hk, prL]
  rw [show l.getD k zC = l[k] by simp [hk]] at hn ⊢
  rw [if_neg hn]
theorem prL_all {r v t u : Int} {l : List Cv} (h : ∀ j, j < l.length → ckE r v t u (l.getD j zC).k (l.getD j zC).v = 0) : prL r v t u l = 0 := by
  rw [prL_drop (Nat.le_refl _) h, List.drop_eq_nil_of_le (Nat.le_refl _), prL]
def pmB (id tag : Int) (l : List Cv) (r v x t u : Int) : Bool := capB id tag l && (asB r v x t && inr u 0 1000000000)
def pmE (id tag : Int) (l : List Cv) (r v x t u : Int) : Int := if pmB id tag l r v x t u then prL r v t u l else 1
theorem cap_kind {id tag : Int} {l : List Cv} (h : capB id tag l = true) {k : Nat} (hk : k < l.length) : (l.getD k zC).k = 1 ∨ (l.getD k zC).k = 2 ∨ (l.getD k zC).k = 3 ∨ (l.getD k zC).k = 4 ∨ (l.getD k zC).k = 5 := by
  unfold capB at h
  simp only [Bool.and_eq_true, Bool.not_eq_true'] at h
  have h2 := List.any_eq_false.1 h.2.2.2 _ (List.getElem_mem hk)
  rw [show l.getD k zC = l[k] by simp [hk]]
  unfold bad cvB at h2
  simp only [Bool.not_eq_true, Bool.not_eq_false', Bool.and_eq_true, inr_iff] at h2
  omega
theorem c1_q (r v x t u z e : Int) (he : ckE r v t u 1 z = e) (B : Nat) (w : World) (n : Nat) (hA : Cs w B (akc r v x t)) : Calls Try.prog 28 #[.int .i64 z, .pointer (some ⟨B, 0, none⟩)] (w.drewN n) fun e1 w' => e1 = .returned (.int .i64 e) ∧ w' = w.drewN n := by
  rw [← he]; exact p1_q r v x t z B w n hA
theorem c2_q (r v x t u z e : Int) (he : ckE r v t u 2 z = e) (B : Nat) (w : World) (n : Nat) (hA : Cs w B (akc r v x t)) : Calls Try.prog 30 #[.int .i64 z, .pointer (some ⟨B, 0, none⟩)] (w.drewN n) fun e1 w' => e1 = .returned (.int .i64 e) ∧ w' = w.drewN n := by
  rw [← he]; exact p2_q r v x t z B w n hA
theorem c3_q (r v x t u z e : Int) (he : ckE r v t u 3 z = e) (B : Nat) (w : World) (n : Nat) (hA : Cs w B (akc r v x t)) : Calls Try.prog 31 #[.int .i64 z, .pointer (some ⟨B, 0, none⟩)] (w.drewN n) fun e1 w' => e1 = .returned (.int .i64 e) ∧ w' = w.drewN n := by
  rw [← he]; exact p3_q r v x t z B w n hA
theorem c4_q (r v x t u z e : Int) (he : ckE r v t u 4 z = e) (B : Nat) (w : World) (n : Nat) (hA : Cs w B (akc r v x t)) : Calls Try.prog 32 #[.int .i64 z, .pointer (some ⟨B, 0, none⟩)] (w.drewN n) fun e1 w' => e1 = .returned (.int .i64 e) ∧ w' = w.drewN n := by
  rw [← he]; exact p4_q r v x t z B w n hA
theorem c5_q (r v t u z e : Int) (he : ckE r v t u 5 z = e) (B : Nat) (w : World) (n : Nat) (hA : Cs w B #[.int .i64 u]) : Calls Try.prog 33 #[.int .i64 z, .pointer (some ⟨B, 0, none⟩)] (w.drewN n) fun e1 w' => e1 = .returned (.int .i64 e) ∧ w' = w.drewN n := by
  rw [← he]; exact p5_q u z B w n hA
set_option maxRecDepth 100000 in
set_option maxHeartbeats 4000000 in
theorem permits_cap (id tag r v x t u : Int) (sl : Value) (l : List Cv) (w : World) (h : CvsAt w sl l) (hc : capB id tag l = false) : Calls Try.prog 12 #[.agg #[.int .i64 id, sl, .int .i64 tag], .agg #[.int .i64 r, .int .i64 v, .int .i64 x, .int .i64 t], .int .i64 u] w fun e w' => e = .returned (.int .i64 1) ∧ Below w.heap.size w w' := by
  have H := Lib.hid h
  obtain ⟨a, cap, rfl, -, -, -⟩ := h
  have HC := Lib.hid hc
  clear hc
  have HB0 := Lib.hid (Below.refl w.heap.size w)
  go_enter Try.func12, Try.ntmps12
  have KA_1 := Lib.hid (Cs.new w (w.heap.size) #[.int .i64 id, .slice a l.length cap, .int .i64 tag] 30 (by simp))
  have HB2 : Hid (Below w.heap.size w (w.alloc (.cells #[.int .i64 id, .slice a l.length cap, .int .i64 tag] 30))) := HB0.out.alloc HB0.out.size _
  clear HB0
  have KA_3 := Lib.hid (KA_1.out.alloc (.cells #[.int .i64 r, .int .i64 v, .int .i64 x, .int .i64 t] 26))
  clear KA_1
  have KK_4 := Lib.hid (Cs.new (w.alloc (.cells #[.int .i64 id, .slice a l.length cap, .int .i64 tag] 30)) (w.heap.size + 1) #[.int .i64 r, .int .i64 v, .int .i64 x, .int .i64 t] 26 (by simp))
  have HB5 : Hid (Below w.heap.size w ((w.alloc (.cells #[.int .i64 id, .slice a l.length cap, .int .i64 tag] 30)).alloc (.cells #[.int .i64 r, .int .i64 v, .int .i64 x, .int .i64 t] 26))) := HB2.out.alloc HB2.out.size _
  clear HB2
  have KA_6 := Lib.hid (KA_3.out.alloc (.cells #[.int .i64 u] 3))
  clear KA_3
  have KK_7 := Lib.hid (KK_4.out.alloc (.cells #[.int .i64 u] 3))
  clear KK_4
  have KU_8 := Lib.hid (Cs.new ((w.alloc (.cells #[.int .i64 id, .slice a l.length cap, .int .i64 tag] 30)).alloc (.cells #[.int .i64 r, .int .i64 v, .int .i64 x, .int .i64 t] 26)) (w.heap.size + 1 + 1) #[.int .i64 u] 3 (by simp))
  have HB9 : Hid (Below w.heap.size w (((w.alloc (.cells #[.int .i64 id, .slice a l.length cap, .int .i64 tag] 30)).alloc (.cells #[.int .i64 r, .int .i64 v, .int .i64 x, .int .i64 t] 26)).alloc (.cells #[.int .i64 u] 3))) := HB5.out.alloc HB5.out.size _
  clear HB5
  have xA0 : (((w.alloc (.cells #[.int .i64 id, .slice a l.length cap, .int .i64 tag] 30)).alloc (.cells #[.int .i64 r, .int .i64 v, .int .i64 x, .int .i64 t] 26)).alloc (.cells #[.int .i64 u] 3)).cell? ⟨w.heap.size, 0, none⟩ = some (.int .i64 id) := KA_6.out.c 0 rfl
  have xA1 : (((w.alloc (.cells #[.int .i64 id, .slice a l.length cap, .int .i64 tag] 30)).alloc (.cells #[.int .i64 r, .int .i64 v, .int .i64 x, .int .i64 t] 26)).alloc (.cells #[.int .i64 u] 3)).cell? ⟨w.heap.size, 1, none⟩ = some (.slice a l.length cap) := KA_6.out.c 1 rfl
  have xA2 : (((w.alloc (.cells #[.int .i64 id, .slice a l.length cap, .int .i64 tag] 30)).alloc (.cells #[.int .i64 r, .int .i64 v, .int .i64 x, .int .i64 t] 26)).alloc (.cells #[.int .i64 u] 3)).cell? ⟨w.heap.size, 2, none⟩ = some (.int .i64 tag) := KA_6.out.c 2 rfl
  have zA : w.heap.size < (((w.alloc (.cells #[.int .i64 id, .slice a l.length cap, .int .i64 tag] 30)).alloc (.cells #[.int .i64 r, .int .i64 v, .int .i64 x, .int .i64 t] 26)).alloc (.cells #[.int .i64 u] 3)).heap.size := KA_6.out.2.2
  have z2A : w.heap.size < (((w.alloc (.cells #[.int .i64 id, .slice a l.length cap, .int .i64 tag] 30)).alloc (.cells #[.int .i64 r, .int .i64 v, .int .i64 x, .int .i64 t] 26)).alloc (.cells #[.int .i64 u] 3)).heap.size + 1 := by omega
  have xK0 : (((w.alloc (.cells #[.int .i64 id, .slice a l.length cap, .int .i64 tag] 30)).alloc (.cells #[.int .i64 r, .int .i64 v, .int .i64 x, .int .i64 t] 26)).alloc (.cells #[.int .i64 u] 3)).cell? ⟨w.heap.size + 1, 0, none⟩ = some (.int .i64 r) := KK_7.out.c 0 rfl
  have xK1 : (((w.alloc (.cells #[.int .i64 id, .slice a l.length cap, .int .i64 tag] 30)).alloc (.cells #[.int .i64 r, .int .i64 v, .int .i64 x, .int .i64 t] 26)).alloc (.cells #[.int .i64 u] 3)).cell? ⟨w.heap.size + 1, 1, none⟩ = some (.int .i64 v) := KK_7.out.c 1 rfl
  have xK2 : (((w.alloc (.cells #[.int .i64 id, .slice a l.length cap, .int .i64 tag] 30)).alloc (.cells #[.int .i64 r, .int .i64 v, .int .i64 x, .int .i64 t] 26)).alloc (.cells #[.int .i64 u] 3)).cell? ⟨w.heap.size + 1, 2, none⟩ = some (.int .i64 x) := KK_7.out.c 2 rfl
  have xK3 : (((w.alloc (.cells #[.int .i64 id, .slice a l.length cap, .int .i64 tag] 30)).alloc (.cells #[.int .i64 r, .int .i64 v, .int .i64 x, .int .i64 t] 26)).alloc (.cells #[.int .i64 u] 3)).cell? ⟨w.heap.size + 1, 3, none⟩ = some (.int .i64 t) := KK_7.out.c 3 rfl
  have zK : w.heap.size + 1 < (((w.alloc (.cells #[.int .i64 id, .slice a l.length cap, .int .i64 tag] 30)).alloc (.cells #[.int .i64 r, .int .i64 v, .int .i64 x, .int .i64 t] 26)).alloc (.cells #[.int .i64 u] 3)).heap.size := KK_7.out.2.2
  have z2K : w.heap.size + 1 < (((w.alloc (.cells #[.int .i64 id, .slice a l.length cap, .int .i64 tag] 30)).alloc (.cells #[.int .i64 r, .int .i64 v, .int .i64 x, .int .i64 t] 26)).alloc (.cells #[.int .i64 u] 3)).heap.size + 1 := by omega
  have xU0 : (((w.alloc (.cells #[.int .i64 id, .slice a l.length cap, .int .i64 tag] 30)).alloc (.cells #[.int .i64 r, .int .i64 v, .int .i64 x, .int .i64 t] 26)).alloc (.cells #[.int .i64 u] 3)).cell? ⟨w.heap.size + 1 + 1, 0, none⟩ = some (.int .i64 u) := KU_8.out.c 0 rfl
  have zU : w.heap.size + 1 + 1 < (((w.alloc (.cells #[.int .i64 id, .slice a l.length cap, .int .i64 tag] 30)).alloc (.cells #[.int .i64 r, .int .i64 v, .int .i64 x, .int .i64 t] 26)).alloc (.cells #[.int .i64 u] 3)).heap.size := KU_8.out.2.2
  have z2U : w.heap.size + 1 + 1 < (((w.alloc (.cells #[.int .i64 id, .slice a l.length cap, .int .i64 tag] 30)).alloc (.cells #[.int .i64 r, .int .i64 v, .int .i64 x, .int .i64 t] 26)).alloc (.cells #[.int .i64 u] 3)).heap.size + 1 := by omega
  go_wp2_with fail
  refine (isCap_any id tag _ l _ (H.out.step HB9.out)).mono ?_
  rintro e u1 ⟨rfl, b1⟩
  clear xA0 xA1 xA2 zA z2A xK0 xK1 xK2 xK3 zK z2K xU0 zU z2U
  have KA_10 := Lib.hid (KA_6.out.step b1)
  clear KA_6
  have KK_11 := Lib.hid (KK_7.out.step b1)
  clear KK_7
  have KU_12 := Lib.hid (KU_8.out.step b1)
  clear KU_8
  have HB13 := Lib.hid (keep2 b1 HB9.out)
  clear HB9 b1
  rw [HC.out]
  go_wp2
  go_ret
  exact ⟨rfl, HB13.out⟩
set_option maxRecDepth 100000 in
set_option maxHeartbeats 4000000 in
theorem permits_ask (id tag r v x t u : Int) (sl : Value) (l : List Cv) (w : World) (h : CvsAt w sl l) (hc : capB id tag l = true) (ha : asB r v x t = false) : Calls Try.prog 12 #[.agg #[.int .i64 id, sl, .int .i64 tag], .agg #[.int .i64 r, .int .i64 v, .int .i64 x, .int .i64 t], .int .i64 u] w fun e w' => e = .returned (.int .i64 1) ∧ Below w.heap.size w w' := by
  have H := Lib.hid h
  obtain ⟨a, cap, rfl, -, -, -⟩ := h
  have HC := Lib.hid hc
  have HA := Lib.hid ha
  clear hc ha
  have HB0 := Lib.hid (Below.refl w.heap.size w)
  go_enter Try.func12, Try.ntmps12
  have KA_1 := Lib.hid (Cs.new w (w.heap.size) #[.int .i64 id, .slice a l.length cap, .int .i64 tag] 30 (by simp))
  have HB2 : Hid (Below w.heap.size w (w.alloc (.cells #[.int .i64 id, .slice a l.length cap, .int .i64 tag] 30))) := HB0.out.alloc HB0.out.size _
  clear HB0
  have KA_3 := Lib.hid (KA_1.out.alloc (.cells #[.int .i64 r, .int .i64 v, .int .i64 x, .int .i64 t] 26))
  clear KA_1
  have KK_4 := Lib.hid (Cs.new (w.alloc (.cells #[.int .i64 id, .slice a l.length cap, .int .i64 tag] 30)) (w.heap.size + 1) #[.int .i64 r, .int .i64 v, .int .i64 x, .int .i64 t] 26 (by simp))
  have HB5 : Hid (Below w.heap.size w ((w.alloc (.cells #[.int .i64 id, .slice a l.length cap, .int .i64 tag] 30)).alloc (.cells #[.int .i64 r, .int .i64 v, .int .i64 x, .int .i64 t] 26))) := HB2.out.alloc HB2.out.size _
  clear HB2
  have KA_6 := Lib.hid (KA_3.out.alloc (.cells #[.int .i64 u] 3))
  clear KA_3
  have KK_7 := Lib.hid (KK_4.out.alloc (.cells #[.int .i64 u] 3))
  clear KK_4
  have KU_8 := Lib.hid (Cs.new ((w.alloc (.cells #[.int .i64 id, .slice a l.length cap, .int .i64 tag] 30)).alloc (.cells #[.int .i64 r, .int .i64 v, .int .i64 x, .int .i64 t] 26)) (w.heap.size + 1 + 1) #[.int .i64 u] 3 (by simp))
  have HB9 : Hid (Below w.heap.size w (((w.alloc (.cells #[.int .i64 id, .slice a l.length cap, .int .i64 tag] 30)).alloc (.cells #[.int .i64 r, .int .i64 v, .int .i64 x, .int .i64 t] 26)).alloc (.cells #[.int .i64 u] 3))) := HB5.out.alloc HB5.out.size _
  clear HB5
  have xA0 : (((w.alloc (.cells #[.int .i64 id, .slice a l.length cap, .int .i64 tag] 30)).alloc (.cells #[.int .i64 r, .int .i64 v, .int .i64 x, .int .i64 t] 26)).alloc (.cells #[.int .i64 u] 3)).cell? ⟨w.heap.size, 0, none⟩ = some (.int .i64 id) := KA_6.out.c 0 rfl
  have xA1 : (((w.alloc (.cells #[.int .i64 id, .slice a l.length cap, .int .i64 tag] 30)).alloc (.cells #[.int .i64 r, .int .i64 v, .int .i64 x, .int .i64 t] 26)).alloc (.cells #[.int .i64 u] 3)).cell? ⟨w.heap.size, 1, none⟩ = some (.slice a l.length cap) := KA_6.out.c 1 rfl
  have xA2 : (((w.alloc (.cells #[.int .i64 id, .slice a l.length cap, .int .i64 tag] 30)).alloc (.cells #[.int .i64 r, .int .i64 v, .int .i64 x, .int .i64 t] 26)).alloc (.cells #[.int .i64 u] 3)).cell? ⟨w.heap.size, 2, none⟩ = some (.int .i64 tag) := KA_6.out.c 2 rfl
  have zA : w.heap.size < (((w.alloc (.cells #[.int .i64 id, .slice a l.length cap, .int .i64 tag] 30)).alloc (.cells #[.int .i64 r, .int .i64 v, .int .i64 x, .int .i64 t] 26)).alloc (.cells #[.int .i64 u] 3)).heap.size := KA_6.out.2.2
  have z2A : w.heap.size < (((w.alloc (.cells #[.int .i64 id, .slice a l.length cap, .int .i64 tag] 30)).alloc (.cells #[.int .i64 r, .int .i64 v, .int .i64 x, .int .i64 t] 26)).alloc (.cells #[.int .i64 u] 3)).heap.size + 1 := by omega
  have xK0 : (((w.alloc (.cells #[.int .i64 id, .slice a l.length cap, .int .i64 tag] 30)).alloc (.cells #[.int .i64 r, .int .i64 v, .int .i64 x, .int .i64 t] 26)).alloc (.cells #[.int .i64 u] 3)).cell? ⟨w.heap.size + 1, 0, none⟩ = some (.int .i64 r) := KK_7.out.c 0 rfl
  have xK1 : (((w.alloc (.cells #[.int .i64 id, .slice a l.length cap, .int .i64 tag] 30)).alloc (.cells #[.int .i64 r, .int .i64 v, .int .i64 x, .int .i64 t] 26)).alloc (.cells #[.int .i64 u] 3)).cell? ⟨w.heap.size + 1, 1, none⟩ = some (.int .i64 v) := KK_7.out.c 1 rfl
  have xK2 : (((w.alloc (.cells #[.int .i64 id, .slice a l.length cap, .int .i64 tag] 30)).alloc (.cells #[.int .i64 r, .int .i64 v, .int .i64 x, .int .i64 t] 26)).alloc (.cells #[.int .i64 u] 3)).cell? ⟨w.heap.size + 1, 2, none⟩ = some (.int .i64 x) := KK_7.out.c 2 rfl
  have xK3 : (((w.alloc (.cells #[.int .i64 id, .slice a l.length cap, .int .i64 tag] 30)).alloc (.cells #[.int .i64 r, .int .i64 v, .int .i64 x, .int .i64 t] 26)).alloc (.cells #[.int .i64 u] 3)).cell? ⟨w.heap.size + 1, 3, none⟩ = some (.int .i64 t) := KK_7.out.c 3 rfl
  have zK : w.heap.size + 1 < (((w.alloc (.cells #[.int .i64 id, .slice a l.length cap, .int .i64 tag] 30)).alloc (.cells #[.int .i64 r, .int .i64 v, .int .i64 x, .int .i64 t] 26)).alloc (.cells #[.int .i64 u] 3)).heap.size := KK_7.out.2.2
  have z2K : w.heap.size + 1 < (((w.alloc (.cells #[.int .i64 id, .slice a l.length cap, .int .i64 tag] 30)).alloc (.cells #[.int .i64 r, .int .i64 v, .int .i64 x, .int .i64 t] 26)).alloc (.cells #[.int .i64 u] 3)).heap.size + 1 := by omega
  have xU0 : (((w.alloc (.cells #[.int .i64 id, .slice a l.length cap, .int .i64 tag] 30)).alloc (.cells #[.int .i64 r, .int .i64 v, .int .i64 x, .int .i64 t] 26)).alloc (.cells #[.int .i64 u] 3)).cell? ⟨w.heap.size + 1 + 1, 0, none⟩ = some (.int .i64 u) := KU_8.out.c 0 rfl
  have zU : w.heap.size + 1 + 1 < (((w.alloc (.cells #[.int .i64 id, .slice a l.length cap, .int .i64 tag] 30)).alloc (.cells #[.int .i64 r, .int .i64 v, .int .i64 x, .int .i64 t] 26)).alloc (.cells #[.int .i64 u] 3)).heap.size := KU_8.out.2.2
  have z2U : w.heap.size + 1 + 1 < (((w.alloc (.cells #[.int .i64 id, .slice a l.length cap, .int .i64 tag] 30)).alloc (.cells #[.int .i64 r, .int .i64 v, .int .i64 x, .int .i64 t] 26)).alloc (.cells #[.int .i64 u] 3)).heap.size + 1 := by omega
  go_wp2_with fail
  refine (isCap_any id tag _ l _ (H.out.step HB9.out)).mono ?_
  rintro e u1 ⟨rfl, b1⟩
  clear xA0 xA1 xA2 zA z2A xK0 xK1 xK2 xK3 zK z2K xU0 zU z2U
  have KA_10 := Lib.hid (KA_6.out.step b1)
  clear KA_6
  have KK_11 := Lib.hid (KK_7.out.step b1)
  clear KK_7
  have KU_12 := Lib.hid (KU_8.out.step b1)
  clear KU_8
  have HB13 := Lib.hid (keep2 b1 HB9.out)
  clear HB9 b1
  rw [HC.out]
  have xK0 : u1.cell? ⟨w.heap.size + 1, 0, none⟩ = some (.int .i64 r) := KK_11.out.c 0 rfl
  have xK1 : u1.cell? ⟨w.heap.size + 1, 1, none⟩ = some (.int .i64 v) := KK_11.out.c 1 rfl
  have xK2 : u1.cell? ⟨w.heap.size + 1, 2, none⟩ = some (.int .i64 x) := KK_11.out.c 2 rfl
  have xK3 : u1.cell? ⟨w.heap.size + 1, 3, none⟩ = some (.int .i64 t) := KK_11.out.c 3 rfl
  have zK : w.heap.size + 1 < u1.heap.size := KK_11.out.2.2
  have z2K : w.heap.size + 1 < u1.heap.size + 1 := by omega
  go_wp2_with fail
  refine (isAsk_any r v x t _).mono ?_
  rintro e u2 ⟨rfl, b2⟩
  clear xK0 xK1 xK2 xK3 zK z2K
  have KA_14 := Lib.hid (KA_10.out.step b2)
  clear KA_10
  have KK_15 := Lib.hid (KK_11.out.step b2)
  clear KK_11
  have KU_16 := Lib.hid (KU_12.out.step b2)
  clear KU_12
  have HB17 := Lib.hid (keep2 b2 HB13.out)
  clear HB13 b2
  rw [HA.out]
  go_wp2
  go_ret
  exact ⟨rfl, HB17.out⟩
set_option maxRecDepth 100000 in
set_option maxHeartbeats 4000000 in
theorem permits_used (id tag r v x t u : Int) (sl : Value) (l : List Cv) (w : World) (h : CvsAt w sl l) (hc : capB id tag l = true) (ha : asB r v x t = true) (hu : inr u 0 1000000000 = false) : Calls Try.prog 12 #[.agg #[.int .i64 id, sl, .int .i64 tag], .agg #[.int .i64 r, .int .i64 v, .int .i64 x, .int .i64 t], .int .i64 u] w fun e w' => e = .returned (.int .i64 1) ∧ Below w.heap.size w w' := by
  have H := Lib.hid h
  obtain ⟨a, cap, rfl, -, -, -⟩ := h
  have HC := Lib.hid hc
  have HA := Lib.hid ha
  have HU := Lib.hid hu
  clear hc ha hu
  have HB0 := Lib.hid (Below.refl w.heap.size w)
  go_enter Try.func12, Try.ntmps12
  have KA_1 := Lib.hid (Cs.new w (w.heap.size) #[.int .i64 id, .slice a l.length cap, .int .i64 tag] 30 (by simp))
  have HB2 : Hid (Below w.heap.size w (w.alloc (.cells #[.int .i64 id, .slice a l.length cap, .int .i64 tag] 30))) := HB0.out.alloc HB0.out.size _
  clear HB0
  have KA_3 := Lib.hid (KA_1.out.alloc (.cells #[.int .i64 r, .int .i64 v, .int .i64 x, .int .i64 t] 26))
  clear KA_1
  have KK_4 := Lib.hid (Cs.new (w.alloc (.cells #[.int .i64 id, .slice a l.length cap, .int .i64 tag] 30)) (w.heap.size + 1) #[.int .i64 r, .int .i64 v, .int .i64 x, .int .i64 t] 26 (by simp))
  have HB5 : Hid (Below w.heap.size w ((w.alloc (.cells #[.int .i64 id, .slice a l.length cap, .int .i64 tag] 30)).alloc (.cells #[.int .i64 r, .int .i64 v, .int .i64 x, .int .i64 t] 26))) := HB2.out.alloc HB2.out.size _
  clear HB2
  have KA_6 := Lib.hid (KA_3.out.alloc (.cells #[.int .i64 u] 3))
  clear KA_3
  have KK_7 := Lib.hid (KK_4.out.alloc (.cells #[.int .i64 u] 3))
  clear KK_4
  have KU_8 := Lib.hid (Cs.new ((w.alloc (.cells #[.int .i64 id, .slice a l.length cap, .int .i64 tag] 30)).alloc (.cells #[.int .i64 r, .int .i64 v, .int .i64 x, .int .i64 t] 26)) (w.heap.size + 1 + 1) #[.int .i64 u] 3 (by simp))
  have HB9 : Hid (Below w.heap.size w (((w.alloc (.cells #[.int .i64 id, .slice a l.length cap, .int .i64 tag] 30)).alloc (.cells #[.int .i64 r, .int .i64 v, .int .i64 x, .int .i64 t] 26)).alloc (.cells #[.int .i64 u] 3))) := HB5.out.alloc HB5.out.size _
  clear HB5
  have xA0 : (((w.alloc (.cells #[.int .i64 id, .slice a l.length cap, .int .i64 tag] 30)).alloc (.cells #[.int .i64 r, .int .i64 v, .int .i64 x, .int .i64 t] 26)).alloc (.cells #[.int .i64 u] 3)).cell? ⟨w.heap.size, 0, none⟩ = some (.int .i64 id) := KA_6.out.c 0 rfl
  have xA1 : (((w.alloc (.cells #[.int .i64 id, .slice a l.length cap, .int .i64 tag] 30)).alloc (.cells #[.int .i64 r, .int .i64 v, .int .i64 x, .int .i64 t] 26)).alloc (.cells #[.int .i64 u] 3)).cell? ⟨w.heap.size, 1, none⟩ = some (.slice a l.length cap) := KA_6.out.c 1 rfl
  have xA2 : (((w.alloc (.cells #[.int .i64 id, .slice a l.length cap, .int .i64 tag] 30)).alloc (.cells #[.int .i64 r, .int .i64 v, .int .i64 x, .int .i64 t] 26)).alloc (.cells #[.int .i64 u] 3)).cell? ⟨w.heap.size, 2, none⟩ = some (.int .i64 tag) := KA_6.out.c 2 rfl
  have zA : w.heap.size < (((w.alloc (.cells #[.int .i64 id, .slice a l.length cap, .int .i64 tag] 30)).alloc (.cells #[.int .i64 r, .int .i64 v, .int .i64 x, .int .i64 t] 26)).alloc (.cells #[.int .i64 u] 3)).heap.size := KA_6.out.2.2
  have z2A : w.heap.size < (((w.alloc (.cells #[.int .i64 id, .slice a l.length cap, .int .i64 tag] 30)).alloc (.cells #[.int .i64 r, .int .i64 v, .int .i64 x, .int .i64 t] 26)).alloc (.cells #[.int .i64 u] 3)).heap.size + 1 := by omega
  have xK0 : (((w.alloc (.cells #[.int .i64 id, .slice a l.length cap, .int .i64 tag] 30)).alloc (.cells #[.int .i64 r, .int .i64 v, .int .i64 x, .int .i64 t] 26)).alloc (.cells #[.int .i64 u] 3)).cell? ⟨w.heap.size + 1, 0, none⟩ = some (.int .i64 r) := KK_7.out.c 0 rfl
  have xK1 : (((w.alloc (.cells #[.int .i64 id, .slice a l.length cap, .int .i64 tag] 30)).alloc (.cells #[.int .i64 r, .int .i64 v, .int .i64 x, .int .i64 t] 26)).alloc (.cells #[.int .i64 u] 3)).cell? ⟨w.heap.size + 1, 1, none⟩ = some (.int .i64 v) := KK_7.out.c 1 rfl
  have xK2 : (((w.alloc (.cells #[.int .i64 id, .slice a l.length cap, .int .i64 tag] 30)).alloc (.cells #[.int .i64 r, .int .i64 v, .int .i64 x, .int .i64 t] 26)).alloc (.cells #[.int .i64 u] 3)).cell? ⟨w.heap.size + 1, 2, none⟩ = some (.int .i64 x) := KK_7.out.c 2 rfl
  have xK3 : (((w.alloc (.cells #[.int .i64 id, .slice a l.length cap, .int .i64 tag] 30)).alloc (.cells #[.int .i64 r, .int .i64 v, .int .i64 x, .int .i64 t] 26)).alloc (.cells #[.int .i64 u] 3)).cell? ⟨w.heap.size + 1, 3, none⟩ = some (.int .i64 t) := KK_7.out.c 3 rfl
  have zK : w.heap.size + 1 < (((w.alloc (.cells #[.int .i64 id, .slice a l.length cap, .int .i64 tag] 30)).alloc (.cells #[.int .i64 r, .int .i64 v, .int .i64 x, .int .i64 t] 26)).alloc (.cells #[.int .i64 u] 3)).heap.size := KK_7.out.2.2
  have z2K : w.heap.size + 1 < (((w.alloc (.cells #[.int .i64 id, .slice a l.length cap, .int .i64 tag] 30)).alloc (.cells #[.int .i64 r, .int .i64 v, .int .i64 x, .int .i64 t] 26)).alloc (.cells #[.int .i64 u] 3)).heap.size + 1 := by omega
  have xU0 : (((w.alloc (.cells #[.int .i64 id, .slice a l.length cap, .int .i64 tag] 30)).alloc (.cells #[.int .i64 r, .int .i64 v, .int .i64 x, .int .i64 t] 26)).alloc (.cells #[.int .i64 u] 3)).cell? ⟨w.heap.size + 1 + 1, 0, none⟩ = some (.int .i64 u) := KU_8.out.c 0 rfl
  have zU : w.heap.size + 1 + 1 < (((w.alloc (.cells #[.int .i64 id, .slice a l.length cap, .int .i64 tag] 30)).alloc (.cells #[.int .i64 r, .int .i64 v, .int .i64 x, .int .i64 t] 26)).alloc (.cells #[.int .i64 u] 3)).heap.size := KU_8.out.2.2
  have z2U : w.heap.size + 1 + 1 < (((w.alloc (.cells #[.int .i64 id, .slice a l.length cap, .int .i64 tag] 30)).alloc (.cells #[.int .i64 r, .int .i64 v, .int .i64 x, .int .i64 t] 26)).alloc (.cells #[.int .i64 u] 3)).heap.size + 1 := by omega
  go_wp2_with fail
  refine (isCap_any id tag _ l _ (H.out.step HB9.out)).mono ?_
  rintro e u1 ⟨rfl, b1⟩
  clear xA0 xA1 xA2 zA z2A xK0 xK1 xK2 xK3 zK z2K xU0 zU z2U
  have KA_10 := Lib.hid (KA_6.out.step b1)
  clear KA_6
  have KK_11 := Lib.hid (KK_7.out.step b1)
  clear KK_7
  have KU_12 := Lib.hid (KU_8.out.step b1)
  clear KU_8
  have HB13 := Lib.hid (keep2 b1 HB9.out)
  clear HB9 b1
  rw [HC.out]
  have xK0 : u1.cell? ⟨w.heap.size + 1, 0, none⟩ = some (.int .i64 r) := KK_11.out.c 0 rfl
  have xK1 : u1.cell? ⟨w.heap.size + 1, 1, none⟩ = some (.int .i64 v) := KK_11.out.c 1 rfl
  have xK2 : u1.cell? ⟨w.heap.size + 1, 2, none⟩ = some (.int .i64 x) := KK_11.out.c 2 rfl
  have xK3 : u1.cell? ⟨w.heap.size + 1, 3, none⟩ = some (.int .i64 t) := KK_11.out.c 3 rfl
  have zK : w.heap.size + 1 < u1.heap.size := KK_11.out.2.2
  have z2K : w.heap.size + 1 < u1.heap.size + 1 := by omega
  go_wp2_with fail
  refine (isAsk_any r v x t _).mono ?_
  rintro e u2 ⟨rfl, b2⟩
  clear xK0 xK1 xK2 xK3 zK z2K
  have KA_14 := Lib.hid (KA_10.out.step b2)
  clear KA_10
  have KK_15 := Lib.hid (KK_11.out.step b2)
  clear KK_11
  have KU_16 := Lib.hid (KU_12.out.step b2)
  clear KU_12
  have HB17 := Lib.hid (keep2 b2 HB13.out)
  clear HB13 b2
  rw [HA.out]
  have xU0 : u2.cell? ⟨w.heap.size + 1 + 1, 0, none⟩ = some (.int .i64 u) := KU_16.out.c 0 rfl
  have zU : w.heap.size + 1 + 1 < u2.heap.size := KU_16.out.2.2
  have z2U : w.heap.size + 1 + 1 < u2.heap.size + 1 := by omega
  go_wp2_with fail
  refine (within_q u 0 1000000000 _ HU.out _).mono ?_
  rintro e w' ⟨rfl, rfl⟩
  clear xU0 zU z2U
  go_wp2
  go_ret
  exact ⟨rfl, HB17.out⟩
set_option maxRecDepth 100000 in
set_option maxHeartbeats 4000000 in
theorem permits_ok (id tag r v x t u : Int) (sl : Value) (l : List Cv) (w : World) (h : CvsAt w sl l) (hc : capB id tag l = true) (ha : asB r v x t = true) (hu : inr u 0 1000000000 = true) : Calls Try.prog 12 #[.agg #[.int .i64 id, sl, .int .i64 tag], .agg #[.int .i64 r, .int .i64 v, .int .i64 x, .int .i64 t], .int .i64 u] w fun e w' => e = .returned (.int .i64 (prL r v t u l)) ∧ Below w.heap.size w w' := by
  have H := Lib.hid h
  obtain ⟨a, cap, rfl, -, -, -⟩ := h
  have HC := Lib.hid hc
  have HA := Lib.hid ha
  have HU := Lib.hid hu
  have HN := Lib.hid (cap_len hc)
  clear hc ha hu
  have HB0 := Lib.hid (Below.refl w.heap.size w)
  go_enter Try.func12, Try.ntmps12
  have KA_1 := Lib.hid (Cs.new w (w.heap.size) #[.int .i64 id, .slice a l.length cap, .int .i64 tag] 30 (by simp))
  have HB2 : Hid (Below w.heap.size w (w.alloc (.cells #[.int .i64 id, .slice a l.length cap, .int .i64 tag] 30))) := HB0.out.alloc HB0.out.size _
  clear HB0
  have KA_3 := Lib.hid (KA_1.out.alloc (.cells #[.int .i64 r, .int .i64 v, .int .i64 x, .int .i64 t] 26))
  clear KA_1
  have KK_4 := Lib.hid (Cs.new (w.alloc (.cells #[.int .i64 id, .slice a l.length cap, .int .i64 tag] 30)) (w.heap.size + 1) #[.int .i64 r, .int .i64 v, .int .i64 x, .int .i64 t] 26 (by simp))
  have HB5 : Hid (Below w.heap.size w ((w.alloc (.cells #[.int .i64 id, .slice a l.length cap, .int .i64 tag] 30)).alloc (.cells #[.int .i64 r, .int .i64 v, .int .i64 x, .int .i64 t] 26))) := HB2.out.alloc HB2.out.size _
  clear HB2
  have KA_6 := Lib.hid (KA_3.out.alloc (.cells #[.int .i64 u] 3))
  clear KA_3
  have KK_7 := Lib.hid (KK_4.out.alloc (.cells #[.int .i64 u] 3))
  clear KK_4
  have KU_8 := Lib.hid (Cs.new ((w.alloc (.cells #[.int .i64 id, .slice a l.length cap, .int .i64 tag] 30)).alloc (.cells #[.int .i64 r, .int .i64 v, .int .i64 x, .int .i64 t] 26)) (w.heap.size + 1 + 1) #[.int .i64 u] 3 (by simp))
  have HB9 : Hid (Below w.heap.size w (((w.alloc (.cells #[.int .i64 id, .slice a l.length cap, .int .i64 tag] 30)).alloc (.cells #[.int .i64 r, .int .i64 v, .int .i64 x, .int .i64 t] 26)).alloc (.cells #[.int .i64 u] 3))) := HB5.out.alloc HB5.out.size _
  clear HB5
  have xA0 : (((w.alloc (.cells #[.int .i64 id, .slice a l.length cap, .int .i64 tag] 30)).alloc (.cells #[.int .i64 r, .int .i64 v, .int .i64 x, .int .i64 t] 26)).alloc (.cells #[.int .i64 u] 3)).cell? ⟨w.heap.size, 0, none⟩ = some (.int .i64 id) := KA_6.out.c 0 rfl
  have xA1 : (((w.alloc (.cells #[.int .i64 id, .slice a l.length cap, .int .i64 tag] 30)).alloc (.cells #[.int .i64 r, .int .i64 v, .int .i64 x, .int .i64 t] 26)).alloc (.cells #[.int .i64 u] 3)).cell? ⟨w.heap.size, 1, none⟩ = some (.slice a l.length cap) := KA_6.out.c 1 rfl
  have xA2 : (((w.alloc (.cells #[.int .i64 id, .slice a l.length cap, .int .i64 tag] 30)).alloc (.cells #[.int .i64 r, .int .i64 v, .int .i64 x, .int .i64 t] 26)).alloc (.cells #[.int .i64 u] 3)).cell? ⟨w.heap.size, 2, none⟩ = some (.int .i64 tag) := KA_6.out.c 2 rfl
  have zA : w.heap.size < (((w.alloc (.cells #[.int .i64 id, .slice a l.length cap, .int .i64 tag] 30)).alloc (.cells #[.int .i64 r, .int .i64 v, .int .i64 x, .int .i64 t] 26)).alloc (.cells #[.int .i64 u] 3)).heap.size := KA_6.out.2.2
  have z2A : w.heap.size < (((w.alloc (.cells #[.int .i64 id, .slice a l.length cap, .int .i64 tag] 30)).alloc (.cells #[.int .i64 r, .int .i64 v, .int .i64 x, .int .i64 t] 26)).alloc (.cells #[.int .i64 u] 3)).heap.size + 1 := by omega
  have xK0 : (((w.alloc (.cells #[.int .i64 id, .slice a l.length cap, .int .i64 tag] 30)).alloc (.cells #[.int .i64 r, .int .i64 v, .int .i64 x, .int .i64 t] 26)).alloc (.cells #[.int .i64 u] 3)).cell? ⟨w.heap.size + 1, 0, none⟩ = some (.int .i64 r) := KK_7.out.c 0 rfl
  have xK1 : (((w.alloc (.cells #[.int .i64 id, .slice a l.length cap, .int .i64 tag] 30)).alloc (.cells #[.int .i64 r, .int .i64 v, .int .i64 x, .int .i64 t] 26)).alloc (.cells #[.int .i64 u] 3)).cell? ⟨w.heap.size + 1, 1, none⟩ = some (.int .i64 v) := KK_7.out.c 1 rfl
  have xK2 : (((w.alloc (.cells #[.int .i64 id, .slice a l.length cap, .int .i64 tag] 30)).alloc (.cells #[.int .i64 r, .int .i64 v, .int .i64 x, .int .i64 t] 26)).alloc (.cells #[.int .i64 u] 3)).cell? ⟨w.heap.size + 1, 2, none⟩ = some (.int .i64 x) := KK_7.out.c 2 rfl
  have xK3 : (((w.alloc (.cells #[.int .i64 id, .slice a l.length cap, .int .i64 tag] 30)).alloc (.cells #[.int .i64 r, .int .i64 v, .int .i64 x, .int .i64 t] 26)).alloc (.cells #[.int .i64 u] 3)).cell? ⟨w.heap.size + 1, 3, none⟩ = some (.int .i64 t) := KK_7.out.c 3 rfl
  have zK : w.heap.size + 1 < (((w.alloc (.cells #[.int .i64 id, .slice a l.length cap, .int .i64 tag] 30)).alloc (.cells #[.int .i64 r, .int .i64 v, .int .i64 x, .int .i64 t] 26)).alloc (.cells #[.int .i64 u] 3)).heap.size := KK_7.out.2.2
  have z2K : w.heap.size + 1 < (((w.alloc (.cells #[.int .i64 id, .slice a l.length cap, .int .i64 tag] 30)).alloc (.cells #[.int .i64 r, .int .i64 v, .int .i64 x, .int .i64 t] 26)).alloc (.cells #[.int .i64 u] 3)).heap.size + 1 := by omega
  have xU0 : (((w.alloc (.cells #[.int .i64 id, .slice a l.length cap, .int .i64 tag] 30)).alloc (.cells #[.int .i64 r, .int .i64 v, .int .i64 x, .int .i64 t] 26)).alloc (.cells #[.int .i64 u] 3)).cell? ⟨w.heap.size + 1 + 1, 0, none⟩ = some (.int .i64 u) := KU_8.out.c 0 rfl
  have zU : w.heap.size + 1 + 1 < (((w.alloc (.cells #[.int .i64 id, .slice a l.length cap, .int .i64 tag] 30)).alloc (.cells #[.int .i64 r, .int .i64 v, .int .i64 x, .int .i64 t] 26)).alloc (.cells #[.int .i64 u] 3)).heap.size := KU_8.out.2.2
  have z2U : w.heap.size + 1 + 1 < (((w.alloc (.cells #[.int .i64 id, .slice a l.length cap, .int .i64 tag] 30)).alloc (.cells #[.int .i64 r, .int .i64 v, .int .i64 x, .int .i64 t] 26)).alloc (.cells #[.int .i64 u] 3)).heap.size + 1 := by omega
  go_wp2_with fail
  refine (isCap_any id tag _ l _ (H.out.step HB9.out)).mono ?_
  rintro e u1 ⟨rfl, b1⟩
  clear xA0 xA1 xA2 zA z2A xK0 xK1 xK2 xK3 zK z2K xU0 zU z2U
  have KA_10 := Lib.hid (KA_6.out.step b1)
  clear KA_6
  have KK_11 := Lib.hid (KK_7.out.step b1)
  clear KK_7
  have KU_12 := Lib.hid (KU_8.out.step b1)
  clear KU_8
  have HB13 := Lib.hid (keep2 b1 HB9.out)
  clear HB9 b1
  rw [HC.out]
  have xK0 : u1.cell? ⟨w.heap.size + 1, 0, none⟩ = some (.int .i64 r) := KK_11.out.c 0 rfl
  have xK1 : u1.cell? ⟨w.heap.size + 1, 1, none⟩ = some (.int .i64 v) := KK_11.out.c 1 rfl
  have xK2 : u1.cell? ⟨w.heap.size + 1, 2, none⟩ = some (.int .i64 x) := KK_11.out.c 2 rfl
  have xK3 : u1.cell? ⟨w.heap.size + 1, 3, none⟩ = some (.int .i64 t) := KK_11.out.c 3 rfl
  have zK : w.heap.size + 1 < u1.heap.size := KK_11.out.2.2
  have z2K : w.heap.size + 1 < u1.heap.size + 1 := by omega
  go_wp2_with fail
  refine (isAsk_any r v x t _).mono ?_
  rintro e u2 ⟨rfl, b2⟩
  clear xK0 xK1 xK2 xK3 zK z2K
  have KA_14 := Lib.hid (KA_10.out.step b2)
  clear KA_10
  have KK_15 := Lib.hid (KK_11.out.step b2)
  clear KK_11
  have KU_16 := Lib.hid (KU_12.out.step b2)
  clear KU_12
  have HB17 := Lib.hid (keep2 b2 HB13.out)
  clear HB13 b2
  rw [HA.out]
  have xU0 : u2.cell? ⟨w.heap.size + 1 + 1, 0, none⟩ = some (.int .i64 u) := KU_16.out.c 0 rfl
  have zU : w.heap.size + 1 + 1 < u2.heap.size := KU_16.out.2.2
  have z2U : w.heap.size + 1 + 1 < u2.heap.size + 1 := by omega
  go_wp2_with fail
  refine (within_q u 0 1000000000 _ HU.out _).mono ?_
  rintro e w' ⟨rfl, rfl⟩
  have xA0 : u2.cell? ⟨w.heap.size, 0, none⟩ = some (.int .i64 id) := KA_14.out.c 0 rfl
  have xA1 : u2.cell? ⟨w.heap.size, 1, none⟩ = some (.slice a l.length cap) := KA_14.out.c 1 rfl
  have xA2 : u2.cell? ⟨w.heap.size, 2, none⟩ = some (.int .i64 tag) := KA_14.out.c 2 rfl
  have zA : w.heap.size < u2.heap.size := KA_14.out.2.2
  have z2A : w.heap.size < u2.heap.size + 1 := by omega
  clear xU0 zU z2U xA0 xA1 xA2 zA z2A
  have KA_18 := Lib.hid (KA_14.out.alloc (.cells #[.nilFunc, .func (.func 28) #[] #[.pointer (some ⟨w.heap.size + 1, 0, none⟩)], .func (.func 30) #[] #[.pointer (some ⟨w.heap.size + 1, 0, none⟩)], .func (.func 31) #[] #[.pointer (some ⟨w.heap.size + 1, 0, none⟩)], .func (.func 32) #[] #[.pointer (some ⟨w.heap.size + 1, 0, none⟩)], .func (.func 33) #[] #[.pointer (some ⟨w.heap.size + 1 + 1, 0, none⟩)]] 67))
  clear KA_14
  have KK_19 := Lib.hid (KK_15.out.alloc (.cells #[.nilFunc, .func (.func 28) #[] #[.pointer (some ⟨w.heap.size + 1, 0, none⟩)], .func (.func 30) #[] #[.pointer (some ⟨w.heap.size + 1, 0, none⟩)], .func (.func 31) #[] #[.pointer (some ⟨w.heap.size + 1, 0, none⟩)], .func (.func 32) #[] #[.pointer (some ⟨w.heap.size + 1, 0, none⟩)], .func (.func 33) #[] #[.pointer (some ⟨w.heap.size + 1 + 1, 0, none⟩)]] 67))
  clear KK_15
  have KU_20 := Lib.hid (KU_16.out.alloc (.cells #[.nilFunc, .func (.func 28) #[] #[.pointer (some ⟨w.heap.size + 1, 0, none⟩)], .func (.func 30) #[] #[.pointer (some ⟨w.heap.size + 1, 0, none⟩)], .func (.func 31) #[] #[.pointer (some ⟨w.heap.size + 1, 0, none⟩)], .func (.func 32) #[] #[.pointer (some ⟨w.heap.size + 1, 0, none⟩)], .func (.func 33) #[] #[.pointer (some ⟨w.heap.size + 1 + 1, 0, none⟩)]] 67))
  clear KU_16
  have KT_21 := Lib.hid (Cs.new u2 (u2.heap.size) #[.nilFunc, .func (.func 28) #[] #[.pointer (some ⟨w.heap.size + 1, 0, none⟩)], .func (.func 30) #[] #[.pointer (some ⟨w.heap.size + 1, 0, none⟩)], .func (.func 31) #[] #[.pointer (some ⟨w.heap.size + 1, 0, none⟩)], .func (.func 32) #[] #[.pointer (some ⟨w.heap.size + 1, 0, none⟩)], .func (.func 33) #[] #[.pointer (some ⟨w.heap.size + 1 + 1, 0, none⟩)]] 67 (by simp))
  have HB22 : Hid (Below w.heap.size w (u2.alloc (.cells #[.nilFunc, .func (.func 28) #[] #[.pointer (some ⟨w.heap.size + 1, 0, none⟩)], .func (.func 30) #[] #[.pointer (some ⟨w.heap.size + 1, 0, none⟩)], .func (.func 31) #[] #[.pointer (some ⟨w.heap.size + 1, 0, none⟩)], .func (.func 32) #[] #[.pointer (some ⟨w.heap.size + 1, 0, none⟩)], .func (.func 33) #[] #[.pointer (some ⟨w.heap.size + 1 + 1, 0, none⟩)]] 67))) := HB17.out.alloc HB17.out.size _
  clear HB17
  have xA0 : (u2.alloc (.cells #[.nilFunc, .func (.func 28) #[] #[.pointer (some ⟨w.heap.size + 1, 0, none⟩)], .func (.func 30) #[] #[.pointer (some ⟨w.heap.size + 1, 0, none⟩)], .func (.func 31) #[] #[.pointer (some ⟨w.heap.size + 1, 0, none⟩)], .func (.func 32) #[] #[.pointer (some ⟨w.heap.size + 1, 0, none⟩)], .func (.func 33) #[] #[.pointer (some ⟨w.heap.size + 1 + 1, 0, none⟩)]] 67)).cell? ⟨w.heap.size, 0, none⟩ = some (.int .i64 id) := KA_18.out.c 0 rfl
  have xA1 : (u2.alloc (.cells #[.nilFunc, .func (.func 28) #[] #[.pointer (some ⟨w.heap.size + 1, 0, none⟩)], .func (.func 30) #[] #[.pointer (some ⟨w.heap.size + 1, 0, none⟩)], .func (.func 31) #[] #[.pointer (some ⟨w.heap.size + 1, 0, none⟩)], .func (.func 32) #[] #[.pointer (some ⟨w.heap.size + 1, 0, none⟩)], .func (.func 33) #[] #[.pointer (some ⟨w.heap.size + 1 + 1, 0, none⟩)]] 67)).cell? ⟨w.heap.size, 1, none⟩ = some (.slice a l.length cap) := KA_18.out.c 1 rfl
  have xA2 : (u2.alloc (.cells #[.nilFunc, .func (.func 28) #[] #[.pointer (some ⟨w.heap.size + 1, 0, none⟩)], .func (.func 30) #[] #[.pointer (some ⟨w.heap.size + 1, 0, none⟩)], .func (.func 31) #[] #[.pointer (some ⟨w.heap.size + 1, 0, none⟩)], .func (.func 32) #[] #[.pointer (some ⟨w.heap.size + 1, 0, none⟩)], .func (.func 33) #[] #[.pointer (some ⟨w.heap.size + 1 + 1, 0, none⟩)]] 67)).cell? ⟨w.heap.size, 2, none⟩ = some (.int .i64 tag) := KA_18.out.c 2 rfl
  have zA : w.heap.size < (u2.alloc (.cells #[.nilFunc, .func (.func 28) #[] #[.pointer (some ⟨w.heap.size + 1, 0, none⟩)], .func (.func 30) #[] #[.pointer (some ⟨w.heap.size + 1, 0, none⟩)], .func (.func 31) #[] #[.pointer (some ⟨w.heap.size + 1, 0, none⟩)], .func (.func 32) #[] #[.pointer (some ⟨w.heap.size + 1, 0, none⟩)], .func (.func 33) #[] #[.pointer (some ⟨w.heap.size + 1 + 1, 0, none⟩)]] 67)).heap.size := KA_18.out.2.2
  have z2A : w.heap.size < (u2.alloc (.cells #[.nilFunc, .func (.func 28) #[] #[.pointer (some ⟨w.heap.size + 1, 0, none⟩)], .func (.func 30) #[] #[.pointer (some ⟨w.heap.size + 1, 0, none⟩)], .func (.func 31) #[] #[.pointer (some ⟨w.heap.size + 1, 0, none⟩)], .func (.func 32) #[] #[.pointer (some ⟨w.heap.size + 1, 0, none⟩)], .func (.func 33) #[] #[.pointer (some ⟨w.heap.size + 1 + 1, 0, none⟩)]] 67)).heap.size + 1 := by omega
  go_wp2_with fail
  clear xA0 xA1 xA2 zA z2A
  obtain ⟨W1, hW1⟩ : ∃ W1, (u2.alloc (.cells #[.nilFunc, .func (.func 28) #[] #[.pointer (some ⟨w.heap.size + 1, 0, none⟩)], .func (.func 30) #[] #[.pointer (some ⟨w.heap.size + 1, 0, none⟩)], .func (.func 31) #[] #[.pointer (some ⟨w.heap.size + 1, 0, none⟩)], .func (.func 32) #[] #[.pointer (some ⟨w.heap.size + 1, 0, none⟩)], .func (.func 33) #[] #[.pointer (some ⟨w.heap.size + 1 + 1, 0, none⟩)]] 67)) = W1 := ⟨_, rfl⟩
  rw [hW1] at KK_19 KU_20 KT_21 HB22 ⊢
  clear hW1
  clear KA_18
  go_loopw [33] (fun i wr => ∃ k : Nat, k ≤ l.length ∧ i = .int .i64 k ∧ Hid (∀ j, j < k → ckE r v t u (l.getD j zC).k (l.getD j zC).v = 0) ∧ Hid (Below W1.heap.size W1 wr)) (fun i _ => l.length - (intOf i).toNat)
  case atStart => exact ⟨0, by omega, rfl, fun j h => absurd h (by omega), Below.refl _ _⟩
  case round =>
    obtain ⟨k, hk, rfl, HF, HW⟩ := hrel
    by_cases hlt : k < l.length
    · obtain ⟨a2, cap2, hva, -, -, hcs⟩ := H.out.step (HB22.out.trans (HW.out.mono HB22.out.size))
      obtain ⟨rfl, rfl⟩ : a = a2 ∧ cap = cap2 := by simpa using hva
      obtain ⟨b, off, rfl, hcs2⟩ := hcs (by intro h; rw [h] at hlt; simp at hlt)
      obtain ⟨x0, x1⟩ := hcs2 k _ (cv_get hlt)
      clear hcs hcs2 hva
      have HK1 := Lib.hid (show k + 1 ≤ l.length from hlt)
      have hkd := cap_kind HC.out hlt
      have HH := Lib.hid (prL_hit (r := r) (v := v) (t := t) (u := u) hlt HF.out)
      have HF2 := Lib.hid (show ckE r v t u (l.getD k zC).k (l.getD k zC).v = 0 → ∀ j, j < k + 1 → ckE r v t u (l.getD j zC).k (l.getD j zC).v = 0 from fun h0 j hj => by
        by_cases e : j = k
        · subst e; exact h0
        · exact HF.out j (by omega))
      clear HF
      generalize l.getD k zC = c at *
      obtain ⟨ck, cz⟩ := c
      simp only at x0 x1 hkd HH HF2
      have xb := World.block_lt_of_cell? _ _ x0
      have xb : b < wr.heap.size := xb
      have KN := Lib.hid (Cs.new wr wr.heap.size #[.int .i64 ck, .int .i64 cz] 24 rfl)
      have HW2 := Lib.hid (HW.out.trans ((al wr (.cells #[.int .i64 ck, .int .i64 cz] 24)).mono HW.out.size))
      obtain ⟨er, her⟩ : ∃ er, ckE r v t u ck cz = er := ⟨_, rfl⟩
      rw [her] at HH HF2
      go_upto_region 7 with fail
      clear x0 x1 xb
      obtain ⟨n9, hn9⟩ : ∃ n9, wr.heap.size = n9 := ⟨_, rfl⟩
      obtain ⟨W7, hW7⟩ : ∃ W7, wr.alloc (.cells #[.int .i64 ck, .int .i64 cz] 24) = W7 := ⟨_, rfl⟩
      rw [hW7] at HW2 KN ⊢
      rw [hn9] at KN ⊢
      clear hW7 hn9
      have KT7 := Lib.hid (KT_21.out.step HW2.out)
      have KK7 := Lib.hid (KK_19.out.step HW2.out)
      have KU7 := Lib.hid (KU_20.out.step HW2.out)
      have n0 := KN.out.c 0 rfl
      have n1 := KN.out.c 1 rfl
      have nz := KN.out.2.2
      have tz := KT7.out.2.2
      replace her := Lib.hid her
      rcases hkd with rfl | rfl | rfl | rfl | rfl
      · have tc := KT7.out.c 1 rfl
        by_cases h0 : er = 0
        · subst h0
          go_quiet ((go_at_call 28; exact Calls.quiet_of_same (c1_q r v x t u cz 0 her.out _ _ _ KK7.out)))
          have HF3 := Lib.hid (HF2.out rfl)
          clear n0 n1 tc
          have hn12 := HN.out
          have hk12 := HK1.out
          go_wp2
          go_roundw
          case rel => exact ⟨k + 1, HK1.out, by go_num, HF3, Lib.hid (HW2.out.trans (below_drewN' _ _ _))⟩
          case measure => have := HK1.out; simp [intOf]; omega
        · have q1 : (er != 0) = true := by simpa using h0
          have q2 : (er == 0) = false := by simpa using h0
          have q3 : decide (er = 0) = false := by simpa using h0
          have HH3 := Lib.hid (HH.out h0)
          clear h0
          go_quiet ((go_at_call 28; exact Calls.quiet_of_same (c1_q r v x t u cz er her.out _ _ _ KK7.out)))
          go_wp2
          go_ret
          exact ⟨ret_int HH3.out.symm, keep2 (HW2.out.trans (below_drewN' _ _ _)) HB22.out⟩
      · have tc := KT7.out.c 2 rfl
        by_cases h0 : er = 0
        · subst h0
          go_quiet ((go_at_call 30; exact Calls.quiet_of_same (c2_q r v x t u cz 0 her.out _ _ _ KK7.out)))
          have HF3 := Lib.hid (HF2.out rfl)
          clear n0 n1 tc
          have hn12 := HN.out
          have hk12 := HK1.out
          go_wp2
          go_roundw
          case rel => exact ⟨k + 1, HK1.out, by go_num, HF3, Lib.hid (HW2.out.trans (below_drewN' _ _ _))⟩
          case measure => have := HK1.out; simp [intOf]; omega
        · have q1 : (er != 0) = true := by simpa using h0
          have q2 : (er == 0) = false := by simpa using h0
          have q3 : decide (er = 0) = false := by simpa using h0
          have HH3 := Lib.hid (HH.out h0)
          clear h0
          go_quiet ((go_at_call 30; exact Calls.quiet_of_same (c2_q r v x t u cz er her.out _ _ _ KK7.out)))
          go_wp2
          go_ret
          exact ⟨ret_int HH3.out.symm, keep2 (HW2.out.trans (below_drewN' _ _ _)) HB22.out⟩
      · have tc := KT7.out.c 3 rfl
        by_cases h0 : er = 0
        · subst h0
          go_quiet ((go_at_call 31; exact Calls.quiet_of_same (c3_q r v x t u cz 0 her.out _ _ _ KK7.out)))
          have HF3 := Lib.hid (HF2.out rfl)
          clear n0 n1 tc
          have hn12 := HN.out
          have hk12 := HK1.out
          go_wp2
          go_roundw
          case rel => exact ⟨k + 1, HK1.out, by go_num, HF3, Lib.hid (HW2.out.trans (below_drewN' _ _ _))⟩
          case measure => have := HK1.out; simp [intOf]; omega
        · have q1 : (er != 0) = true := by simpa using h0
          have q2 : (er == 0) = false := by simpa using h0
          have q3 : decide (er = 0) = false := by simpa using h0
          have HH3 := Lib.hid (HH.out h0)
          clear h0
          go_quiet ((go_at_call 31; exact Calls.quiet_of_same (c3_q r v x t u cz er her.out _ _ _ KK7.out)))
          go_wp2
          go_ret
          exact ⟨ret_int HH3.out.symm, keep2 (HW2.out.trans (below_drewN' _ _ _)) HB22.out⟩
      · have tc := KT7.out.c 4 rfl
        by_cases h0 : er = 0
        · subst h0
          go_quiet ((go_at_call 32; exact Calls.quiet_of_same (c4_q r v x t u cz 0 her.out _ _ _ KK7.out)))
          have HF3 := Lib.hid (HF2.out rfl)
          clear n0 n1 tc
          have hn12 := HN.out
          have hk12 := HK1.out
          go_wp2
          go_roundw
          case rel => exact ⟨k + 1, HK1.out, by go_num, HF3, Lib.hid (HW2.out.trans (below_drewN' _ _ _))⟩
          case measure => have := HK1.out; simp [intOf]; omega
        · have q1 : (er != 0) = true := by simpa using h0
          have q2 : (er == 0) = false := by simpa using h0
          have q3 : decide (er = 0) = false := by simpa using h0
          have HH3 := Lib.hid (HH.out h0)
          clear h0
          go_quiet ((go_at_call 32; exact Calls.quiet_of_same (c4_q r v x t u cz er her.out _ _ _ KK7.out)))
          go_wp2
          go_ret
          exact ⟨ret_int HH3.out.symm, keep2 (HW2.out.trans (below_drewN' _ _ _)) HB22.out⟩
      · have tc := KT7.out.c 5 rfl
        by_cases h0 : er = 0
        · subst h0
          go_quiet ((go_at_call 33; exact Calls.quiet_of_same (c5_q r v t u cz 0 her.out _ _ _ KU7.out)))
          have HF3 := Lib.hid (HF2.out rfl)
          clear n0 n1 tc
          have hn12 := HN.out
          have hk12 := HK1.out
          go_wp2
          go_roundw
          case rel => exact ⟨k + 1, HK1.out, by go_num, HF3, Lib.hid (HW2.out.trans (below_drewN' _ _ _))⟩
          case measure => have := HK1.out; simp [intOf]; omega
        · have q1 : (er != 0) = true := by simpa using h0
          have q2 : (er == 0) = false := by simpa using h0
          have q3 : decide (er = 0) = false := by simpa using h0
          have HH3 := Lib.hid (HH.out h0)
          clear h0
          go_quiet ((go_at_call 33; exact Calls.quiet_of_same (c5_q r v t u cz er her.out _ _ _ KU7.out)))
          go_wp2
          go_ret
          exact ⟨ret_int HH3.out.symm, keep2 (HW2.out.trans (below_drewN' _ _ _)) HB22.out⟩
    · obtain rfl : k = l.length := by omega
      have HP := Lib.hid (prL_all HF.out)
      go_wp2
      go_ret
      exact ⟨ret_int HP.out.symm, keep2 HW.out HB22.out⟩
end Go.Proofs.Ytoaleijfpocdjaa
