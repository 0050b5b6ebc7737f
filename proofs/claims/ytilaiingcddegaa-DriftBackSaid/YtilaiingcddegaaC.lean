/- The contracts of the reference's 'Since', of 'Now', 'Meet', 'Before' and the reference's. -/
import Derived.Test.YtilaiingcddegaaB
namespace Go.Proofs.Ytilaiingcddegaa
open Go.RowKit

set_option maxRecDepth 100000 in
set_option maxHeartbeats 1000000 in
theorem rsince_any (s d : Int) (w : World) : Calls Try.prog 11 #[.int .i64 s, .int .i64 d] w (SpanPost (sLo s d) (sHi s d) (sEr s d) w) := by
  cases hk : sOk s d
  · have HE := Lib.hid (show sLo s d = 0 ∧ sHi s d = 0 ∧ sEr s d = 1 by unfold sLo sHi sEr; rw [hk]; exact ⟨rfl, rfl, rfl⟩)
    rw [HE.out.1, HE.out.2.1, HE.out.2.2]
    cases hs : inB s 0 1000000000
    · clear hk
      go_enter Try.func11, Try.ntmps11
      go_wp2_with (go_at_call 25; go_must (refine (between_any s _ _ _).mono ?_); rintro e w1 ⟨rfl, rfl⟩; rw [hs])
      exact bodyPost_ret (v := .tuple #[.agg #[.int .i64 0, .int .i64 0], .int .i64 1]) (by simp [results, Try.results11, go_sem]) rfl ⟨rfl, (by repeat (first | with_reducible exact Below.refl _ _ | with_reducible exact Below.refl _ _ | ((with_reducible refine Below.setCell ?_ ?_ _); rotate_left; focus (first | (simp; done) | (simp; omega) | omega)) | ((with_reducible refine Below.alloc ?_ ?_ _); rotate_left; focus (first | (simp; done) | (simp; omega) | omega)) | with_reducible refine Below.trans ?_ (below_drewN' _ _ _) | with_reducible refine Below.trans ?_ (below_drew _ _)))⟩
    · have hd : inB d 0 100000 = false := by simpa [sOk, hs] using hk
      clear hk
      go_enter Try.func11, Try.ntmps11
      go_wp2_with (go_at_call 25; (first | (with_reducible refine (between_any s 0 1000000000 _).mono ?_) | (with_reducible refine (between_any d 0 100000 _).mono ?_)); rintro e w1 ⟨rfl, rfl⟩; (first | rw [hs] | rw [hd]))
      exact bodyPost_ret (v := .tuple #[.agg #[.int .i64 0, .int .i64 0], .int .i64 1]) (by simp [results, Try.results11, go_sem]) rfl ⟨rfl, (by repeat (first | with_reducible exact Below.refl _ _ | with_reducible exact Below.refl _ _ | ((with_reducible refine Below.setCell ?_ ?_ _); rotate_left; focus (first | (simp; done) | (simp; omega) | omega)) | ((with_reducible refine Below.alloc ?_ ?_ _); rotate_left; focus (first | (simp; done) | (simp; omega) | omega)) | with_reducible refine Below.trans ?_ (below_drewN' _ _ _) | with_reducible refine Below.trans ?_ (below_drew _ _)))⟩
  · have HE := Lib.hid (show sLo s d = lo s d ∧ sHi s d = hi s d ∧ sEr s d = 0 by unfold sLo sHi sEr; rw [hk]; exact ⟨rfl, rfl, rfl⟩)
    rw [HE.out.1, HE.out.2.1, HE.out.2.2]
    obtain ⟨⟨hs, hd⟩, ⟨a4, a5⟩, a6, a7⟩ := sOk_bd hk
    clear hk
    go_enter Try.func11, Try.ntmps11
    go_wp2_with (go_at_call 25; (first | (with_reducible refine (between_any s 0 1000000000 _).mono ?_) | (with_reducible refine (between_any d 0 100000 _).mono ?_)); rintro e w1 ⟨rfl, rfl⟩; (first | rw [hs] | rw [hd]))
    go_region
    go_wp2
    exact bodyPost_ret (v := .tuple #[.agg #[.int .i64 (lo s d), .int .i64 (hi s d)], .int .i64 0]) (by simp [results, Try.results11, go_sem, lo, hi]) rfl ⟨rfl, (by repeat (first | with_reducible exact Below.refl _ _ | with_reducible exact Below.refl _ _ | ((with_reducible refine Below.setCell ?_ ?_ _); rotate_left; focus (first | (simp; done) | (simp; omega) | omega)) | ((with_reducible refine Below.alloc ?_ ?_ _); rotate_left; focus (first | (simp; done) | (simp; omega) | omega)) | with_reducible refine Below.trans ?_ (below_drewN' _ _ _) | with_reducible refine Below.trans ?_ (below_drew _ _)))⟩

/-- What 'Now' gives. -/
def nOk (l h s d : Int) : Bool := aOk l h s d && decide (h + hi s d ≤ 2000000000)
def nLo (l h s d : Int) : Int := if nOk l h s d then l + lo s d else 0
def nHi (l h s d : Int) : Int := if nOk l h s d then h + hi s d else 0
def nEr (l h s d : Int) : Int := if aOk l h s d then (if h + hi s d ≤ 2000000000 then 0 else 20) else 1
theorem now_cases (l h s d : Int) : (aOk l h s d = false ∧ nLo l h s d = 0 ∧ nHi l h s d = 0 ∧ nEr l h s d = 1) ∨ (aOk l h s d = true ∧ 2000000000 < h + hi s d ∧ nLo l h s d = 0 ∧ nHi l h s d = 0 ∧ nEr l h s d = 20) ∨
    (aOk l h s d = true ∧ h + hi s d ≤ 2000000000 ∧ nLo l h s d = l + lo s d ∧ nHi l h s d = h + hi s d ∧ nEr l h s d = 0) := by
  unfold nLo nHi nEr nOk
  cases aOk l h s d
  · exact .inl ⟨rfl, rfl, rfl, rfl⟩
  · by_cases hh : h + hi s d ≤ 2000000000
    · exact .inr (.inr ⟨rfl, hh, by simp [hh], by simp [hh], by simp [hh]⟩)
    · exact .inr (.inl ⟨rfl, by omega, by simp [hh], by simp [hh], by simp [hh]⟩)
theorem two_new {w w1 : World} {o1 o2 : Obj} (hb : Below ((w.alloc o1).alloc o2).heap.size ((w.alloc o1).alloc o2) w1) : w.heap.size + 1 < w1.heap.size ∧ Below w.heap.size w w1 :=
  ⟨Nat.lt_of_lt_of_le (by simp) hb.size, keep2 hb al2⟩
set_option maxRecDepth 100000 in
set_option maxHeartbeats 2000000 in
theorem now_any (l h s d : Int) (w : World) : Calls Try.prog 12 #[.agg #[.int .i64 l, .int .i64 h], .int .i64 s, .int .i64 d] w (SpanPost (nLo l h s d) (nHi l h s d) (nEr l h s d) w) := by
  rcases now_cases l h s d with ⟨hk, h1, h2, h3⟩ | ⟨hk, hh, h1, h2, h3⟩ | ⟨hk, hh, h1, h2, h3⟩ <;> rw [h1, h2, h3] <;> clear h1 h2 h3 <;> have HK := Lib.hid hk
  · clear hk
    go_enter Try.func12, Try.ntmps12
    go_wp2_with fail
    refine (after_no l h s d _ HK.out).mono ?_
    rintro e w1 ⟨rfl, b1⟩
    obtain ⟨hz, HB⟩ := two_new b1
    have HB := Lib.hid HB
    obtain ⟨hc, hf⟩ := bcell b1
    clear b1
    unfold zP
    go_wp2
    exact bodyPost_ret (v := .tuple #[.agg #[.int .i64 0, .int .i64 0], .int .i64 1]) (by simp [results, Try.results12, go_sem, hc, hz]) rfl ⟨rfl, (by repeat (first | with_reducible exact HB.out | with_reducible exact Below.refl _ _ | ((with_reducible refine Below.setCell ?_ ?_ _); rotate_left; focus (first | (simp; done) | (simp; omega) | omega)) | ((with_reducible refine Below.alloc ?_ ?_ _); rotate_left; focus (first | (simp; done) | (simp; omega) | omega)) | with_reducible refine Below.trans ?_ (below_drewN' _ _ _) | with_reducible refine Below.trans ?_ (below_drew _ _)))⟩
  · clear hk
    have hb := aOk_bd HK.out
    obtain ⟨-, ⟨a1, a2, a3⟩, ⟨a4, a5⟩, a6, a7⟩ := hb
    have g1 := hi_nonneg a4 a7
    have g2 := hi_bd a4 a7 a6 a5
    go_enter Try.func12, Try.ntmps12
    go_wp2_with fail
    refine (after_ok l h s d _ HK.out).mono ?_
    rintro e w1 ⟨rfl, b1⟩
    obtain ⟨hz, HB⟩ := two_new b1
    have HB := Lib.hid HB
    obtain ⟨hc, hf⟩ := bcell b1
    clear b1
    go_wp2
    exact bodyPost_ret (v := .tuple #[.agg #[.int .i64 0, .int .i64 0], .int .i64 20]) (by simp [results, Try.results12, go_sem, hc, hz]) rfl ⟨rfl, (by repeat (first | with_reducible exact HB.out | with_reducible exact Below.refl _ _ | ((with_reducible refine Below.setCell ?_ ?_ _); rotate_left; focus (first | (simp; done) | (simp; omega) | omega)) | ((with_reducible refine Below.alloc ?_ ?_ _); rotate_left; focus (first | (simp; done) | (simp; omega) | omega)) | with_reducible refine Below.trans ?_ (below_drewN' _ _ _) | with_reducible refine Below.trans ?_ (below_drew _ _)))⟩
  · clear hk
    have hb := aOk_bd HK.out
    obtain ⟨-, ⟨a1, a2, a3⟩, ⟨a4, a5⟩, a6, a7⟩ := hb
    have g1 := hi_nonneg a4 a7
    have g2 := hi_bd a4 a7 a6 a5
    go_enter Try.func12, Try.ntmps12
    go_wp2_with fail
    refine (after_ok l h s d _ HK.out).mono ?_
    rintro e w1 ⟨rfl, b1⟩
    obtain ⟨hz, HB⟩ := two_new b1
    have HB := Lib.hid HB
    obtain ⟨hc, hf⟩ := bcell b1
    clear b1
    go_wp2
    exact bodyPost_ret (v := .tuple #[.agg #[.int .i64 (l + lo s d), .int .i64 (h + hi s d)], .int .i64 0]) (by simp [results, Try.results12, go_sem, hc, hz]) rfl ⟨rfl, (by repeat (first | with_reducible exact HB.out | with_reducible exact Below.refl _ _ | ((with_reducible refine Below.setCell ?_ ?_ _); rotate_left; focus (first | (simp; done) | (simp; omega) | omega)) | ((with_reducible refine Below.alloc ?_ ?_ _); rotate_left; focus (first | (simp; done) | (simp; omega) | omega)) | with_reducible refine Below.trans ?_ (below_drewN' _ _ _) | with_reducible refine Below.trans ?_ (below_drew _ _)))⟩
end Go.Proofs.Ytilaiingcddegaa
