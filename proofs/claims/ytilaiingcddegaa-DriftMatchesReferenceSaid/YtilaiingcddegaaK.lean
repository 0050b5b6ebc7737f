/- The walk of DriftExact. -/
import Derived.Test.YtilaiingcddegaaJ
namespace Go.Proofs.Ytilaiingcddegaa
open Go.RowKit

theorem can_is (c p d : Int) (b : Bool) (w : World) (n : Nat) (h1 : 0 ≤ p) (h2 : p ≤ 2000000000) (h3 : 0 ≤ d) (h4 : d ≤ 100000) (h5 : 0 ≤ c) (h6 : c ≤ 1000000000) (hb : can c p d = b) :
    Calls Try.prog 21 #[.int .i64 c, .int .i64 p, .int .i64 d] (w.drewN n) fun e w' => e = .returned (.bool b) ∧ w' = w.drewN n :=
  (can_any c p d _ h1 h2 h3 h4 h5 h6).mono fun e w' h => ⟨by rw [h.1, hb], h.2.symm⟩
theorem can_iff {s d : Int} (hs : 0 ≤ s) (h0 : 0 ≤ d) (hd : d ≤ 100000) (t : Int) : can s t d = true ↔ lo s d ≤ t ∧ t ≤ hi s d := by
  unfold can; rw [decide_eq_true_iff, lo_le hs h0, le_hi hs hd]; exact And.comm
theorem exact_cases {s d : Int} (hs : 0 ≤ s) (h0 : 0 ≤ d) (hd : d ≤ 100000) (t : Int) : (decide (lo s d ≤ t) = false ∧ can s t d = false) ∨ (decide (lo s d ≤ t) = true ∧ decide (t ≤ hi s d) = false ∧ can s t d = false) ∨ (decide (lo s d ≤ t) = true ∧ decide (t ≤ hi s d) = true ∧ can s t d = true) := by
  have hi2 := can_iff hs h0 hd t
  by_cases h1 : lo s d ≤ t
  · by_cases h2 : t ≤ hi s d
    · exact .inr (.inr ⟨by simpa using h1, by simpa using h2, hi2.2 ⟨h1, h2⟩⟩)
    · refine .inr (.inl ⟨by simpa using h1, by simpa using h2, ?_⟩)
      cases h : can s t d
      · rfl
      · exact absurd (hi2.1 h).2 h2
  · refine .inl ⟨by simpa using h1, ?_⟩
    cases h : can s t d
    · rfl
    · exact absurd (hi2.1 h).1 h1

set_option maxRecDepth 100000 in
set_option maxHeartbeats 4000000 in
theorem exact_walk (s d p : Int) (w : World) (hp : 0 ≤ p) (hp2 : p ≤ 4294967295) : Calls Try.prog 4 #[.int .i64 s, .int .i64 d, .int .u32 p] w fun e w' => e = .returned (.bool true) ∧ Below w.heap.size w w' := by
  cases hk : sOk s d
  · have HE := Lib.hid (s_no hk)
    clear hk
    have HB0 := Lib.hid (Below.refl w.heap.size w)
    go_enter Try.func4, Try.ntmps4
    go_wp2_with fail
    refine (head_any _).mono ?_
    rintro e u1 ⟨rfl, b1⟩
    have HB1 := Lib.hid (keep2 b1 HB0.out)
    clear HB0 b1
    go_wp2_with fail
    refine (since_at s d 0 0 1 _ HE.out).mono ?_
    rintro e u2 ⟨rfl, b2⟩
    have HB2 := Lib.hid (keep2 b2 HB1.out)
    clear HB1 b2
    have KA_3 := Lib.hid (TwoAt.new u2 (u2.heap.size) (0) (0) 23 (by simp))
    have HB4 : Hid (Below w.heap.size w (u2.alloc (.cells #[.int .i64 0, .int .i64 0] 23))) := HB2.out.alloc HB2.out.size _
    clear HB2
    go_wp2_with fail
    go_ret
    exact ⟨rfl, HB4.out⟩
  · have HE := Lib.hid (s_of hk)
    obtain ⟨-, ⟨a4, a5⟩, a6, a7⟩ := sOk_bd hk
    clear hk
    have t1 : 0 ≤ p % 2000000001 := Int.emod_nonneg _ (by omega)
    have t2 : p % 2000000001 ≤ 2000000000 := by omega
    have j1 : decide (lo s d ≤ s) = true := by simpa using lo_self a4 a6
    have j2 : decide (s ≤ hi s d) = true := by simpa using self_hi a4 a7 a6
    have HB0 := Lib.hid (Below.refl w.heap.size w)
    go_enter Try.func4, Try.ntmps4
    go_wp2_with fail
    refine (head_any _).mono ?_
    rintro e u1 ⟨rfl, b1⟩
    have HB1 := Lib.hid (keep2 b1 HB0.out)
    clear HB0 b1
    go_wp2_with fail
    refine (since_at s d (lo s d) (hi s d) 0 _ HE.out).mono ?_
    rintro e u2 ⟨rfl, b2⟩
    have HB2 := Lib.hid (keep2 b2 HB1.out)
    clear HB1 b2
    have KA_3 := Lib.hid (TwoAt.new u2 (u2.heap.size) ((lo s d)) ((hi s d)) 23 (by simp))
    have HB4 : Hid (Below w.heap.size w (u2.alloc (.cells #[.int .i64 (lo s d), .int .i64 (hi s d)] 23))) := HB2.out.alloc HB2.out.size _
    clear HB2
    obtain ⟨⟨xA, yA⟩, zA⟩ := KA_3.out
    go_wp2_with fail
    have HC := exact_cases a4 a6 a7 (p % 2000000001)
    generalize p % 2000000001 = t at *
    generalize lo s d = x at *
    generalize hi s d = y at *
    rcases HC with ⟨k1, k3⟩ | ⟨k1, k2, k3⟩ | ⟨k1, k2, k3⟩
    all_goals
      have K3 := Lib.hid k3
      clear k3
      go_quiet ((go_at_call 21; exact Calls.quiet_of_same (can_is s t d _ _ _ t1 t2 a6 a7 a4 a5 K3.out)))
      go_wp2
      go_ret
      exact ⟨rfl, HB4.out.trans (below_drewN' _ _ _)⟩
end Go.Proofs.Ytilaiingcddegaa
