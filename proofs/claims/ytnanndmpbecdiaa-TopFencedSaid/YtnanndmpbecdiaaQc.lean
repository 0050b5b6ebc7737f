import Derived.Test.YtnanndmpbecdiaaLc
import Derived.Test.YtnanndmpbecdiaaQa
namespace Go.Proofs.Ytnanndmpbecdiaa
open Go.RowKit

def inB (n lo hi : Int) : Bool := decide (lo ≤ n ∧ n ≤ hi)
theorem dwithin_any (n lo hi : Int) (w : World) :
    Calls Try.prog 36 #[.int .i64 n, .int .i64 lo, .int .i64 hi] w fun e w' => e = .returned (.bool (inB n lo hi)) ∧ w = w' := by
  by_cases h1 : lo ≤ n
  · have h3 : decide (lo ≤ n) = true := by simpa using h1
    have h5 : inB n lo hi = decide (n ≤ hi) := by unfold inB; simp [h1]
    rw [h5]
    go_enter Try.func36, Try.ntmps36
    go_wp2
    go_ret
    exact ⟨rfl, rfl⟩
  · have h3 : decide (lo ≤ n) = false := by simpa using h1
    have h5 : inB n lo hi = false := by unfold inB; simp [h1]
    rw [h5]
    go_enter Try.func36, Try.ntmps36
    go_wp2
    go_ret
    exact ⟨rfl, rfl⟩
def rng (l h : Int) : Bool := decide (0 ≤ l ∧ l ≤ h ∧ h ≤ 2000000000)
theorem rng_cases (l h : Int) : (rng l h = false ∧ decide (0 ≤ l) = false) ∨ (rng l h = false ∧ decide (0 ≤ l) = true ∧ decide (l ≤ h) = false) ∨ (rng l h = decide (h ≤ 2000000000) ∧ decide (0 ≤ l) = true ∧ decide (l ≤ h) = true) := by
  unfold rng
  by_cases h1 : 0 ≤ l
  · by_cases h2 : l ≤ h
    · exact .inr (.inr ⟨by simp [h1, h2], by simpa using h1, by simpa using h2⟩)
    · exact .inr (.inl ⟨by simp [h2], by simpa using h1, by simpa using h2⟩)
  · exact .inl ⟨by simp [h1], by simpa using h1⟩
set_option maxHeartbeats 1000000 in
theorem isRange_any (l h : Int) (w : World) :
    Calls Try.prog 35 #[.agg #[.int .i64 l, .int .i64 h]] w fun e w' => e = .returned (.bool (rng l h)) ∧ w' = w.alloc (.cells #[.int .i64 l, .int .i64 h] 50) := by
  rcases rng_cases l h with ⟨hr, h1⟩ | ⟨hr, h1, h2⟩ | ⟨hr, h1, h2⟩ <;> rw [hr] <;> clear hr
  · go_enter Try.func35, Try.ntmps35
    go_wp2
    go_ret
    exact ⟨rfl, rfl⟩
  · go_enter Try.func35, Try.ntmps35
    go_wp2
    go_ret
    exact ⟨rfl, rfl⟩
  · go_enter Try.func35, Try.ntmps35
    go_wp2
    go_ret
    exact ⟨rfl, rfl⟩
open Go.RowKit

def can (c p d : Int) : Bool := decide ((1000000 - d) * p ≤ 1000000 * c ∧ 1000000 * c ≤ (1000000 + d) * p)
/-- Whether 'after' has a result. -/
def aOk (l h s d : Int) : Bool := rng l h && (inB s 0 1000000000 && inB d 0 100000)
def zP : Value := .agg #[.int .i64 0, .int .i64 0]
set_option maxRecDepth 100000 in
set_option maxHeartbeats 1000000 in
theorem after_no (l h s d : Int) (w : World) (hk : aOk l h s d = false) :
    Calls Try.prog 24 #[.agg #[.int .i64 l, .int .i64 h, .int .i64 d], .int .i64 s] w fun e w' => e = .returned (.tuple #[zP, .int .i64 1]) ∧ Below w.heap.size w w' := by
  unfold zP
  cases hr : rng l h
  · clear hk
    go_enter Try.func24, Try.ntmps24
    go_wp2_with (go_at_call 35; go_must (refine (isRange_any l h _).mono ?_); rintro e w1 ⟨rfl, rfl⟩; rw [hr])
    exact bodyPost_ret (v := .tuple #[.agg #[.int .i64 0, .int .i64 0], .int .i64 1]) (by simp [results, Try.results24, go_sem]) rfl ⟨rfl, al3⟩
  · cases hs : inB s 0 1000000000
    · clear hk
      go_enter Try.func24, Try.ntmps24
      go_wp2_with (first | (go_at_call 35; go_must (refine (isRange_any l h _).mono ?_); rintro e w1 ⟨rfl, rfl⟩; rw [hr]) | (go_at_call 36; go_must (refine (dwithin_any s _ _ _).mono ?_); rintro e w1 ⟨rfl, rfl⟩; rw [hs]))
      exact bodyPost_ret (v := .tuple #[.agg #[.int .i64 0, .int .i64 0], .int .i64 1]) (by simp [results, Try.results24, go_sem]) rfl ⟨rfl, al3⟩
    · have hd : inB d 0 100000 = false := by simpa [aOk, hr, hs] using hk
      clear hk
      go_enter Try.func24, Try.ntmps24
      go_wp2_with (first | (go_at_call 35; go_must (refine (isRange_any l h _).mono ?_); rintro e w1 ⟨rfl, rfl⟩; rw [hr]) | (go_at_call 36; (first | (with_reducible refine (dwithin_any s 0 1000000000 _).mono ?_) | (with_reducible refine (dwithin_any d 0 100000 _).mono ?_)); rintro e w1 ⟨rfl, rfl⟩; (first | rw [hs] | rw [hd])))
      exact bodyPost_ret (v := .tuple #[.agg #[.int .i64 0, .int .i64 0], .int .i64 1]) (by simp [results, Try.results24, go_sem]) rfl ⟨rfl, al3⟩
theorem aOk_bd {l h s d : Int} (hk : aOk l h s d = true) : (rng l h = true ∧ inB s 0 1000000000 = true ∧ inB d 0 100000 = true) ∧ (0 ≤ l ∧ l ≤ h ∧ h ≤ 2000000000) ∧ (0 ≤ s ∧ s ≤ 1000000000) ∧ 0 ≤ d ∧ d ≤ 100000 := by
  unfold aOk at hk
  rw [Bool.and_eq_true, Bool.and_eq_true] at hk
  obtain ⟨h1, h2, h3⟩ := hk
  exact ⟨⟨h1, h2, h3⟩, of_decide_eq_true h1, of_decide_eq_true h2, of_decide_eq_true h3⟩
set_option maxRecDepth 100000 in
set_option maxHeartbeats 1000000 in
theorem after_ok (l h s d : Int) (w : World) (hk : aOk l h s d = true) :
    Calls Try.prog 24 #[.agg #[.int .i64 l, .int .i64 h, .int .i64 d], .int .i64 s] w fun e w' => e = .returned (.tuple #[.agg #[.int .i64 (l + lo s d), .int .i64 (h + hi s d)], .int .i64 0]) ∧ Below w.heap.size w w' := by
  obtain ⟨⟨hr, hs, hd⟩, ⟨a1, a2, a3⟩, ⟨a4, a5⟩, a6, a7⟩ := aOk_bd hk
  have HL := Lib.hid (show wrap64 (l + lo s d) = l + lo s d from IntWalk.wrap64_in _ (by have := lo_nonneg a4 a6; have := lo_bd a4 a6 a5; omega))
  have HH := Lib.hid (show wrap64 (h + hi s d) = h + hi s d from IntWalk.wrap64_in _ (by have := hi_nonneg a4 a7; have := hi_bd a4 a7 a6 a5; omega))
  clear hk
  go_enter Try.func24, Try.ntmps24
  go_wp2_with (first | (go_at_call 35; go_must (refine (isRange_any l h _).mono ?_); rintro e w1 ⟨rfl, rfl⟩; rw [hr]) | (go_at_call 36; (first | (with_reducible refine (dwithin_any s 0 1000000000 _).mono ?_) | (with_reducible refine (dwithin_any d 0 100000 _).mono ?_)); rintro e w1 ⟨rfl, rfl⟩; (first | rw [hs] | rw [hd])))
  go_quiet (fail)
  go_wp2
  go_region
  go_wp2
  rw [show (1000000 * s + (1000000 + d) - 1) / (1000000 + d) = lo s d from rfl, show 1000000 * s / (1000000 - d) = hi s d from rfl, HL.out, HH.out]
  exact bodyPost_ret (v := .tuple #[.agg #[.int .i64 (l + lo s d), .int .i64 (h + hi s d)], .int .i64 0]) (by simp [results, Try.results24, go_sem]) rfl ⟨rfl, ((al3.trans (below_drewN' _ _ _)).setCell (by simp) _).setCell (by simp) _⟩

/-- What 'Since' and the reference's 'Since' give. -/
def sOk (s d : Int) : Bool := inB s 0 1000000000 && inB d 0 100000
theorem aOk_zero (s d : Int) : aOk 0 0 s d = sOk s d := rfl
def sLo (s d : Int) : Int := if sOk s d then lo s d else 0
def sHi (s d : Int) : Int := if sOk s d then hi s d else 0
def sEr (s d : Int) : Int := if sOk s d then 0 else 1
/-- What 'Since' leaves. -/
def SpanPost (x y z : Int) (w : World) (e : Ending) (w' : World) : Prop := e = .returned (.tuple #[.agg #[.int .i64 x, .int .i64 y], .int .i64 z]) ∧ Below w.heap.size w w'
set_option maxRecDepth 100000 in
set_option maxHeartbeats 1000000 in
theorem since_any (s d : Int) (w : World) : Calls Try.prog 9 #[.int .i64 s, .int .i64 d] w (SpanPost (sLo s d) (sHi s d) (sEr s d) w) := by
  cases hk : sOk s d
  · have HE := Lib.hid (show sLo s d = 0 ∧ sHi s d = 0 ∧ sEr s d = 1 by unfold sLo sHi sEr; rw [hk]; exact ⟨rfl, rfl, rfl⟩)
    have HK := Lib.hid ((aOk_zero s d).trans hk)
    clear hk
    rw [HE.out.1, HE.out.2.1, HE.out.2.2]
    go_enter Try.func9, Try.ntmps9
    go_wp2_with fail
    refine (after_no 0 0 s d _ HK.out).mono ?_
    rintro e w1 ⟨rfl, b1⟩
    have hz : w.heap.size < w1.heap.size := Nat.lt_of_lt_of_le (by simp) b1.size
    have HB := Lib.hid (keep2 b1 (al w _))
    obtain ⟨hc, hf⟩ := bcell b1
    clear b1
    unfold zP
    go_wp2
    exact bodyPost_ret (v := .tuple #[.agg #[.int .i64 0, .int .i64 0], .int .i64 1]) (by simp [results, Try.results9, go_sem, hc]) rfl ⟨rfl, (HB.out.setCell (by simp) _).setCell (by simp) _⟩
  · have HE := Lib.hid (show sLo s d = lo s d ∧ sHi s d = hi s d ∧ sEr s d = 0 by unfold sLo sHi sEr; rw [hk]; exact ⟨rfl, rfl, rfl⟩)
    have HK := Lib.hid ((aOk_zero s d).trans hk)
    clear hk
    rw [HE.out.1, HE.out.2.1, HE.out.2.2]
    go_enter Try.func9, Try.ntmps9
    go_wp2_with fail
    refine (after_ok 0 0 s d _ HK.out).mono ?_
    rintro e w1 ⟨rfl, b1⟩
    rw [Int.zero_add, Int.zero_add]
    have hz : w.heap.size < w1.heap.size := Nat.lt_of_lt_of_le (by simp) b1.size
    have HB := Lib.hid (keep2 b1 (al w _))
    obtain ⟨hc, hf⟩ := bcell b1
    clear b1
    go_wp2
    exact bodyPost_ret (v := .tuple #[.agg #[.int .i64 (lo s d), .int .i64 (hi s d)], .int .i64 0]) (by simp [results, Try.results9, go_sem, hc]) rfl ⟨rfl, (HB.out.setCell (by simp) _).setCell (by simp) _⟩
end Go.Proofs.Ytnanndmpbecdiaa
