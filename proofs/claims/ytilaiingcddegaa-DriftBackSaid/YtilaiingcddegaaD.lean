/- The contracts of the reference's 'Now', of 'Meet', 'Before' and the reference's. -/
import Derived.Test.YtilaiingcddegaaC
namespace Go.Proofs.Ytilaiingcddegaa
open Go.RowKit

theorem SpanPost.mk {x y z : Int} {w w' : World} (h : Below w.heap.size w w') : SpanPost x y z w (.returned (.tuple #[.agg #[.int .i64 x, .int .i64 y], .int .i64 z])) w' := ⟨rfl, h⟩
theorem sOk_of {l h s d : Int} (h1 : rng l h = true) : aOk l h s d = sOk s d := by unfold aOk sOk; rw [h1]; rfl
theorem aOk_no {l h s d : Int} (h1 : rng l h = false) : aOk l h s d = false := by unfold aOk; rw [h1]; rfl
theorem s_of {s d : Int} (hk : sOk s d = true) : sLo s d = lo s d ∧ sHi s d = hi s d ∧ sEr s d = 0 := by unfold sLo sHi sEr; rw [hk]; exact ⟨rfl, rfl, rfl⟩
theorem s_no {s d : Int} (hk : sOk s d = false) : sLo s d = 0 ∧ sHi s d = 0 ∧ sEr s d = 1 := by unfold sLo sHi sEr; rw [hk]; exact ⟨rfl, rfl, rfl⟩
/-- What the reference's 'Since' gives, in the three cases. -/
theorem rnow_cases (l h s d : Int) : (sOk s d = false ∧ aOk l h s d = false) ∨ (sOk s d = true ∧ rng l h = false ∧ aOk l h s d = false) ∨ (sOk s d = true ∧ rng l h = true ∧ aOk l h s d = true) := by
  cases hr : rng l h
  · rw [aOk_no hr]; cases sOk s d <;> simp
  · rw [sOk_of hr]; cases sOk s d <;> simp
theorem now_no {l h s d : Int} (hk : aOk l h s d = false) : nLo l h s d = 0 ∧ nHi l h s d = 0 ∧ nEr l h s d = 1 := by unfold nLo nHi nEr nOk; rw [hk]; exact ⟨rfl, rfl, rfl⟩
theorem now_yes {l h s d : Int} (hk : aOk l h s d = true) : (2000000000 < h + hi s d ∧ nLo l h s d = 0 ∧ nHi l h s d = 0 ∧ nEr l h s d = 20) ∨ (h + hi s d ≤ 2000000000 ∧ nLo l h s d = l + lo s d ∧ nHi l h s d = h + hi s d ∧ nEr l h s d = 0) := by
  rcases now_cases l h s d with ⟨h0, _⟩ | ⟨_, h⟩ | ⟨_, h⟩
  · rw [hk] at h0; cases h0
  · exact .inl h
  · exact .inr h
theorem five_al {w w1 : World} {o1 o2 : Obj} (hb : Below ((w.alloc o1).alloc o2).heap.size ((w.alloc o1).alloc o2) w1) : w.heap.size + 1 < w1.heap.size ∧ Below w.heap.size w w1 := two_new hb
set_option maxRecDepth 100000 in
set_option maxHeartbeats 2000000 in
theorem rnow_any (l h s d : Int) (w : World) : Calls Try.prog 13 #[.agg #[.int .i64 l, .int .i64 h], .int .i64 s, .int .i64 d] w (SpanPost (nLo l h s d) (nHi l h s d) (nEr l h s d) w) := by
  rcases rnow_cases l h s d with ⟨hs, ha⟩ | ⟨hs, hr, ha⟩ | ⟨hs, hr, ha⟩
  · obtain ⟨h1, h2, h3⟩ := now_no ha
    rw [h1, h2, h3]
    have HE := Lib.hid (s_no hs)
    clear hs ha h1 h2 h3
    cases hr : rng l h
    all_goals
      go_enter Try.func13, Try.ntmps13
      go_wp2_with fail
      refine (rsince_any s d _).mono ?_
      rintro e w1 ⟨rfl, b1⟩
      rw [HE.out.1, HE.out.2.1, HE.out.2.2]
      obtain ⟨hz, HB⟩ := two_new b1
      have hz0 : w.heap.size < w1.heap.size := by omega
      have HB := Lib.hid HB
      obtain ⟨hc, hf⟩ := bcell b1
      clear b1
      go_wp2_with (go_at_call 22; go_must (refine (valid_any l h _).mono ?_); rintro e w1 ⟨rfl, rfl⟩; rw [hr])
      exact bodyPost_ret (v := .tuple #[.agg #[.int .i64 0, .int .i64 0], .int .i64 1]) (by simp [results, Try.results13, go_sem, hc, hz, hz0]) rfl (SpanPost.mk (by repeat (first | with_reducible exact HB.out | with_reducible exact Below.refl _ _ | ((with_reducible refine Below.setCell ?_ ?_ _); rotate_left; focus (first | (simp; done) | (simp; omega) | omega)) | ((with_reducible refine Below.alloc ?_ ?_ _); rotate_left; focus (first | (simp; done) | (simp; omega) | omega)) | with_reducible refine Below.trans ?_ (below_drewN' _ _ _) | with_reducible refine Below.trans ?_ (below_drew _ _))))
  · obtain ⟨h1, h2, h3⟩ := now_no ha
    rw [h1, h2, h3]
    have HE := Lib.hid (s_of hs)
    clear hs ha h1 h2 h3
    go_enter Try.func13, Try.ntmps13
    go_wp2_with fail
    refine (rsince_any s d _).mono ?_
    rintro e w1 ⟨rfl, b1⟩
    rw [HE.out.1, HE.out.2.1, HE.out.2.2]
    obtain ⟨hz, HB⟩ := two_new b1
    have hz0 : w.heap.size < w1.heap.size := by omega
    have HB := Lib.hid HB
    obtain ⟨hc, hf⟩ := bcell b1
    clear b1
    go_wp2_with (go_at_call 22; go_must (refine (valid_any l h _).mono ?_); rintro e w1 ⟨rfl, rfl⟩; rw [hr])
    exact bodyPost_ret (v := .tuple #[.agg #[.int .i64 0, .int .i64 0], .int .i64 1]) (by simp [results, Try.results13, go_sem, hc, hz, hz0]) rfl (SpanPost.mk (by repeat (first | with_reducible exact HB.out | with_reducible exact Below.refl _ _ | ((with_reducible refine Below.setCell ?_ ?_ _); rotate_left; focus (first | (simp; done) | (simp; omega) | omega)) | ((with_reducible refine Below.alloc ?_ ?_ _); rotate_left; focus (first | (simp; done) | (simp; omega) | omega)) | with_reducible refine Below.trans ?_ (below_drewN' _ _ _) | with_reducible refine Below.trans ?_ (below_drew _ _))))
  · have hb := aOk_bd ha
    obtain ⟨-, ⟨a1, a2, a3⟩, ⟨a4, a5⟩, a6, a7⟩ := hb
    have g1 := hi_nonneg a4 a7
    have g2 := hi_bd a4 a7 a6 a5
    have g3 := lo_nonneg a4 a6
    have g4 := lo_bd a4 a6 a5
    have HE := Lib.hid (s_of hs)
    rcases now_yes ha with ⟨hh, h1, h2, h3⟩ | ⟨hh, h1, h2, h3⟩
    all_goals
      rw [h1, h2, h3]
      clear h1 h2 h3 ha hs
      go_enter Try.func13, Try.ntmps13
      go_wp2_with fail
      refine (rsince_any s d _).mono ?_
      rintro e w1 ⟨rfl, b1⟩
      rw [HE.out.1, HE.out.2.1, HE.out.2.2]
      obtain ⟨hz, HB⟩ := two_new b1
      have hz0 : w.heap.size < w1.heap.size := by omega
      have HB := Lib.hid HB
      obtain ⟨hc, hf⟩ := bcell b1
      clear b1
      go_wp2_with (go_at_call 22; go_must (refine (valid_any l h _).mono ?_); rintro e w1 ⟨rfl, rfl⟩; rw [hr])
    · exact bodyPost_ret (v := .tuple #[.agg #[.int .i64 0, .int .i64 0], .int .i64 20]) (by simp [results, Try.results13, go_sem, hc, hz, hz0]) rfl (SpanPost.mk (by repeat (first | with_reducible exact HB.out | with_reducible exact Below.refl _ _ | ((with_reducible refine Below.setCell ?_ ?_ _); rotate_left; focus (first | (simp; done) | (simp; omega) | omega)) | ((with_reducible refine Below.alloc ?_ ?_ _); rotate_left; focus (first | (simp; done) | (simp; omega) | omega)) | with_reducible refine Below.trans ?_ (below_drewN' _ _ _) | with_reducible refine Below.trans ?_ (below_drew _ _))))
    · exact bodyPost_ret (v := .tuple #[.agg #[.int .i64 (l + lo s d), .int .i64 (h + hi s d)], .int .i64 0]) (by simp [results, Try.results13, go_sem, hc, hz, hz0]) rfl (SpanPost.mk (by repeat (first | with_reducible exact HB.out | with_reducible exact Below.refl _ _ | ((with_reducible refine Below.setCell ?_ ?_ _); rotate_left; focus (first | (simp; done) | (simp; omega) | omega)) | ((with_reducible refine Below.alloc ?_ ?_ _); rotate_left; focus (first | (simp; done) | (simp; omega) | omega)) | with_reducible refine Below.trans ?_ (below_drewN' _ _ _) | with_reducible refine Below.trans ?_ (below_drew _ _))))
end Go.Proofs.Ytilaiingcddegaa
