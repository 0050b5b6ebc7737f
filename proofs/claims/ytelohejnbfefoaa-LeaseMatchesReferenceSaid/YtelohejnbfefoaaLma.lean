/- Leases: the reference's small functions, 'Propose' and 'Vote'. -/
import Derived.Test.YtelohejnbfefoaaLw
namespace Go.Proofs.Ytelohejnbfefoaa
open Go.RowKit

theorem formed_eq (h f u now : Int) : (inr now 0 1000000000 && (inr h 0 2 && (inr f 1 1000000000 && (decide (now < u) && decide (u ≤ 2000000000))))) = (tmB now && lsB h f u now) := by
  unfold tmB lsB
  rw [show inr u (now + 1) 2000000000 = (decide (now < u) && decide (u ≤ 2000000000)) by unfold inr; congr 1]
  simp only [Bool.and_assoc]
set_option maxRecDepth 100000 in
set_option maxHeartbeats 4000000 in
theorem formed_any (h f u now : Int) (w : World) : Calls Try.prog 33 #[.agg #[.int .i64 h, .int .i64 f, .int .i64 u], .int .i64 now] w fun e w' => e = .returned (.bool (tmB now && lsB h f u now)) ∧ Below w.heap.size w w' := by
  rw [← formed_eq]
  cases h0 : inr now 0 1000000000
  · have H0 := Lib.hid h0; clear h0
    go_enter Try.func33, Try.ntmps33
    go_wp2_with fail
    refine (between_q now 0 1000000000 _ H0.out _).mono ?_
    rintro e w' ⟨rfl, rfl⟩
    go_wp2
    go_ret
    exact ⟨rfl, al _ _⟩
  · cases h1 : inr h 0 2
    · have H0 := Lib.hid h0; clear h0
      have H1 := Lib.hid h1; clear h1
      go_enter Try.func33, Try.ntmps33
      go_wp2_with fail
      refine (between_q now 0 1000000000 _ H0.out _).mono ?_
      rintro e w' ⟨rfl, rfl⟩
      go_wp2_with fail
      refine (between_q h 0 2 _ H1.out _).mono ?_
      rintro e w' ⟨rfl, rfl⟩
      go_wp2
      go_ret
      exact ⟨rfl, al _ _⟩
    · cases h2 : inr f 1 1000000000
      · have H0 := Lib.hid h0; clear h0
        have H1 := Lib.hid h1; clear h1
        have H2 := Lib.hid h2; clear h2
        go_enter Try.func33, Try.ntmps33
        go_wp2_with fail
        refine (between_q now 0 1000000000 _ H0.out _).mono ?_
        rintro e w' ⟨rfl, rfl⟩
        go_wp2_with fail
        refine (between_q h 0 2 _ H1.out _).mono ?_
        rintro e w' ⟨rfl, rfl⟩
        go_wp2_with fail
        refine (between_q f 1 1000000000 _ H2.out _).mono ?_
        rintro e w' ⟨rfl, rfl⟩
        go_wp2
        go_ret
        exact ⟨rfl, al _ _⟩
      · by_cases h3 : now < u
        · have H0 := Lib.hid h0; clear h0
          have H1 := Lib.hid h1; clear h1
          have H2 := Lib.hid h2; clear h2
          have HR := Lib.hid (show (true && (true && (true && (decide (now < u) && decide (u ≤ 2000000000))))) = decide (u ≤ 2000000000) by simp [h3])
          rw [HR.out]
          go_enter Try.func33, Try.ntmps33
          go_wp2_with fail
          refine (between_q now 0 1000000000 _ H0.out _).mono ?_
          rintro e w' ⟨rfl, rfl⟩
          go_wp2_with fail
          refine (between_q h 0 2 _ H1.out _).mono ?_
          rintro e w' ⟨rfl, rfl⟩
          go_wp2_with fail
          refine (between_q f 1 1000000000 _ H2.out _).mono ?_
          rintro e w' ⟨rfl, rfl⟩
          go_wp2
          go_ret
          exact ⟨rfl, al _ _⟩
        · have H0 := Lib.hid h0; clear h0
          have H1 := Lib.hid h1; clear h1
          have H2 := Lib.hid h2; clear h2
          have HR := Lib.hid (show (true && (true && (true && (decide (now < u) && decide (u ≤ 2000000000))))) = false by simp [h3])
          rw [HR.out]
          go_enter Try.func33, Try.ntmps33
          go_wp2_with fail
          refine (between_q now 0 1000000000 _ H0.out _).mono ?_
          rintro e w' ⟨rfl, rfl⟩
          go_wp2_with fail
          refine (between_q h 0 2 _ H1.out _).mono ?_
          rintro e w' ⟨rfl, rfl⟩
          go_wp2_with fail
          refine (between_q f 1 1000000000 _ H2.out _).mono ?_
          rintro e w' ⟨rfl, rfl⟩
          go_wp2
          go_ret
          exact ⟨rfl, al _ _⟩
set_option maxRecDepth 100000 in
set_option maxHeartbeats 2000000 in
theorem rholds_any (h f u now : Int) (w : World) : Calls Try.prog 18 #[.agg #[.int .i64 h, .int .i64 f, .int .i64 u], .int .i64 now] w fun e w' => e = .returned (.bool (hoB f u now)) ∧ Below w.heap.size w w' := by
  by_cases h1 : 0 < f
  · cases h2 : inr now 0 1000000000
    · have HR := Lib.hid (show hoB f u now = false by unfold hoB tmB; rw [h2]; simp)
      have H2 := Lib.hid h2; clear h2
      go_enter Try.func18, Try.ntmps18
      go_wp2_with fail
      refine (between_q now 0 1000000000 _ H2.out _).mono ?_
      rintro e w' ⟨rfl, rfl⟩
      go_wp2
      go_ret
      exact ⟨ret_bool HR.out.symm, al _ _⟩
    · have HR := Lib.hid (show hoB f u now = decide (now < u) by unfold hoB tmB; rw [h2]; simp [h1])
      have H2 := Lib.hid h2; clear h2
      go_enter Try.func18, Try.ntmps18
      go_wp2_with fail
      refine (between_q now 0 1000000000 _ H2.out _).mono ?_
      rintro e w' ⟨rfl, rfl⟩
      go_wp2
      go_ret
      exact ⟨ret_bool HR.out.symm, al _ _⟩
  · have HR := Lib.hid (show hoB f u now = false by unfold hoB; simp [h1])
    go_enter Try.func18, Try.ntmps18
    go_wp2
    go_ret
    exact ⟨ret_bool HR.out.symm, al _ _⟩
/-- The ways of a vote. -/
theorem vo_ways (vf vh vu h f u now : Int) : ((tmB now && lsB h f u now) = false ∧ voB vf vh vu h f u now = false) ∨ ((tmB now && lsB h f u now) = true ∧ ¬ vf < f ∧ voB vf vh vu h f u now = false) ∨ ((tmB now && lsB h f u now) = true ∧ vf < f ∧ now < vu ∧ vh ≠ h ∧ voB vf vh vu h f u now = false) ∨ ((tmB now && lsB h f u now) = true ∧ vf < f ∧ now < vu ∧ vh = h ∧ voB vf vh vu h f u now = true) ∨ ((tmB now && lsB h f u now) = true ∧ vf < f ∧ ¬ now < vu ∧ voB vf vh vu h f u now = true) := by
  have e : voB vf vh vu h f u now = ((tmB now && lsB h f u now) && (decide (vf < f) && (decide (vu ≤ now) || vh == h))) := by
    unfold voB agB; simp only [Bool.and_assoc]
  rw [e]
  cases h0 : (tmB now && lsB h f u now)
  · exact .inl ⟨rfl, rfl⟩
  · by_cases h1 : vf < f
    · by_cases h2 : now < vu
      · by_cases h3 : vh = h
        · exact .inr (.inr (.inr (.inl ⟨rfl, h1, h2, h3, by simp [h1, h3]⟩)))
        · exact .inr (.inr (.inl ⟨rfl, h1, h2, h3, by simp [h3]; omega⟩))
      · exact .inr (.inr (.inr (.inr ⟨rfl, h1, h2, by simp [h1]; omega⟩)))
    · exact .inr (.inl ⟨rfl, h1, by simp [h1]⟩)
set_option maxRecDepth 100000 in
set_option maxHeartbeats 8000000 in
theorem rvote_any (vf vh vu h f u now : Int) (w : World) : Calls Try.prog 15 #[.agg #[.int .i64 vf, .int .i64 vh, .int .i64 vu], .agg #[.int .i64 h, .int .i64 f, .int .i64 u], .int .i64 now] w fun e w' => e = .returned (.tuple #[.agg (votedV vf vh vu h f u now), .bool (voB vf vh vu h f u now)]) ∧ Below w.heap.size w w' := by
  have HV := Lib.hid (((Cs.new w w.heap.size #[.int .i64 vf, .int .i64 vh, .int .i64 vu] 25 rfl).alloc (.cells #[.int .i64 h, .int .i64 f, .int .i64 u] 27)).alloc (.cells #[.int .i64 0, .int .i64 0, .int .i64 0] 25))
  have HL := Lib.hid ((Cs.new (w.alloc (.cells #[.int .i64 vf, .int .i64 vh, .int .i64 vu] 25)) (w.heap.size + 1) #[.int .i64 h, .int .i64 f, .int .i64 u] 27 (by simp)).alloc (.cells #[.int .i64 0, .int .i64 0, .int .i64 0] 25))
  have HO := Lib.hid (Cs.new ((w.alloc (.cells #[.int .i64 vf, .int .i64 vh, .int .i64 vu] 25)).alloc (.cells #[.int .i64 h, .int .i64 f, .int .i64 u] 27)) (w.heap.size + 1 + 1) #[.int .i64 0, .int .i64 0, .int .i64 0] 25 (by simp))
  have HB := Lib.hid (al3 (w := w) (o1 := .cells #[.int .i64 vf, .int .i64 vh, .int .i64 vu] 25) (o2 := .cells #[.int .i64 h, .int .i64 f, .int .i64 u] 27) (o3 := .cells #[.int .i64 0, .int .i64 0, .int .i64 0] 25))
  have hw := vo_ways vf vh vu h f u now
  rcases hw with ⟨h0, hq⟩ | ⟨h0, h1, hq⟩ | ⟨h0, h1, h2, h3, hq⟩ | ⟨h0, h1, h2, h3, hq⟩ | ⟨h0, h1, h2, hq⟩
  · rw [show votedV vf vh vu h f u now = vtc vf vh vu by unfold votedV; rw [hq]; rfl, hq]
    have H0 := Lib.hid h0
    clear h0 hq
    unfold vtc
    go_enter Try.func15, Try.ntmps15
    go_wp2_with fail
    refine (formed_any h f u now _).mono ?_
    rintro e w1 ⟨rfl, b1⟩
    rw [H0.out]
    have HV1 := Lib.hid (HV.out.step b1)
    have HL1 := Lib.hid (HL.out.step b1)
    have HO1 := Lib.hid (HO.out.step b1)
    have HB1 := Lib.hid (keep2 b1 HB.out)
    clear b1
    have hz1 := HV1.out.2.2
    have hz2 := HL1.out.2.2
    have hz3 := HO1.out.2.2
    have x0 := HV1.out.c 0 rfl
    have x1 := HV1.out.c 1 rfl
    have x2 := HV1.out.c 2 rfl
    have y0 := HL1.out.c 0 rfl
    have y1 := HL1.out.c 1 rfl
    have y2 := HL1.out.c 2 rfl
    have r0 := HO1.out.c 0 rfl
    have r1 := HO1.out.c 1 rfl
    have r2 := HO1.out.c 2 rfl
    have f0 := HO1.out.f 0 (by simp)
    have f1 := HO1.out.f 1 (by simp)
    have f2 := HO1.out.f 2 (by simp)
    go_wp2
    exact bodyPost_ret (v := .tuple #[.agg #[.int .i64 vf, .int .i64 vh, .int .i64 vu], .bool false]) (by simp [results, Try.results15, go_sem, r0, r1, r2, hz3]) rfl ⟨rfl, (by repeat (first | with_reducible exact HB1.out | with_reducible exact Below.refl _ _ | ((with_reducible refine Below.setCell ?_ ?_ _); rotate_left; focus (first | (simp; done) | (simp; omega) | omega)) | ((with_reducible refine Below.alloc ?_ ?_ _); rotate_left; focus (first | (simp; done) | (simp; omega) | omega)) | with_reducible refine Below.trans ?_ (below_drewN' _ _ _) | with_reducible refine Below.trans ?_ (below_drew _ _)))⟩
  · rw [show votedV vf vh vu h f u now = vtc vf vh vu by unfold votedV; rw [hq]; rfl, hq]
    have H0 := Lib.hid h0
    clear h0 hq
    unfold vtc
    have q1 : decide (f ≤ vf) = true := by simp; omega
    clear h1
    go_enter Try.func15, Try.ntmps15
    go_wp2_with fail
    refine (formed_any h f u now _).mono ?_
    rintro e w1 ⟨rfl, b1⟩
    rw [H0.out]
    have HV1 := Lib.hid (HV.out.step b1)
    have HL1 := Lib.hid (HL.out.step b1)
    have HO1 := Lib.hid (HO.out.step b1)
    have HB1 := Lib.hid (keep2 b1 HB.out)
    clear b1
    have hz1 := HV1.out.2.2
    have hz2 := HL1.out.2.2
    have hz3 := HO1.out.2.2
    have x0 := HV1.out.c 0 rfl
    have x1 := HV1.out.c 1 rfl
    have x2 := HV1.out.c 2 rfl
    have y0 := HL1.out.c 0 rfl
    have y1 := HL1.out.c 1 rfl
    have y2 := HL1.out.c 2 rfl
    have r0 := HO1.out.c 0 rfl
    have r1 := HO1.out.c 1 rfl
    have r2 := HO1.out.c 2 rfl
    have f0 := HO1.out.f 0 (by simp)
    have f1 := HO1.out.f 1 (by simp)
    have f2 := HO1.out.f 2 (by simp)
    go_wp2
    exact bodyPost_ret (v := .tuple #[.agg #[.int .i64 vf, .int .i64 vh, .int .i64 vu], .bool false]) (by simp [results, Try.results15, go_sem, r0, r1, r2, hz3]) rfl ⟨rfl, (by repeat (first | with_reducible exact HB1.out | with_reducible exact Below.refl _ _ | ((with_reducible refine Below.setCell ?_ ?_ _); rotate_left; focus (first | (simp; done) | (simp; omega) | omega)) | ((with_reducible refine Below.alloc ?_ ?_ _); rotate_left; focus (first | (simp; done) | (simp; omega) | omega)) | with_reducible refine Below.trans ?_ (below_drewN' _ _ _) | with_reducible refine Below.trans ?_ (below_drew _ _)))⟩
  · rw [show votedV vf vh vu h f u now = vtc vf vh vu by unfold votedV; rw [hq]; rfl, hq]
    have H0 := Lib.hid h0
    clear h0 hq
    unfold vtc
    have q1 : decide (f ≤ vf) = false := by simp; omega
    have q2 : (vh != h) = true := by simpa using h3
    have q3 : ¬ f ≤ vf := by omega
    clear h3
    go_enter Try.func15, Try.ntmps15
    go_wp2_with fail
    refine (formed_any h f u now _).mono ?_
    rintro e w1 ⟨rfl, b1⟩
    rw [H0.out]
    have HV1 := Lib.hid (HV.out.step b1)
    have HL1 := Lib.hid (HL.out.step b1)
    have HO1 := Lib.hid (HO.out.step b1)
    have HB1 := Lib.hid (keep2 b1 HB.out)
    clear b1
    have hz1 := HV1.out.2.2
    have hz2 := HL1.out.2.2
    have hz3 := HO1.out.2.2
    have x0 := HV1.out.c 0 rfl
    have x1 := HV1.out.c 1 rfl
    have x2 := HV1.out.c 2 rfl
    have y0 := HL1.out.c 0 rfl
    have y1 := HL1.out.c 1 rfl
    have y2 := HL1.out.c 2 rfl
    have r0 := HO1.out.c 0 rfl
    have r1 := HO1.out.c 1 rfl
    have r2 := HO1.out.c 2 rfl
    have f0 := HO1.out.f 0 (by simp)
    have f1 := HO1.out.f 1 (by simp)
    have f2 := HO1.out.f 2 (by simp)
    go_wp2
    exact bodyPost_ret (v := .tuple #[.agg #[.int .i64 vf, .int .i64 vh, .int .i64 vu], .bool false]) (by simp [results, Try.results15, go_sem, r0, r1, r2, hz3]) rfl ⟨rfl, (by repeat (first | with_reducible exact HB1.out | with_reducible exact Below.refl _ _ | ((with_reducible refine Below.setCell ?_ ?_ _); rotate_left; focus (first | (simp; done) | (simp; omega) | omega)) | ((with_reducible refine Below.alloc ?_ ?_ _); rotate_left; focus (first | (simp; done) | (simp; omega) | omega)) | with_reducible refine Below.trans ?_ (below_drewN' _ _ _) | with_reducible refine Below.trans ?_ (below_drew _ _)))⟩
  · have HU := Lib.hid (show votedV vf vh vu h f u now = vtc f h (grU vh vu h u) by unfold votedV; rw [hq]; rfl)
    rw [hq]
    have H0 := Lib.hid h0
    clear h0 hq
    unfold vtc at HU
    subst h3
    have q1 : decide (f ≤ vf) = false := by simp; omega
    have q3 : ¬ f ≤ vf := by omega
    by_cases h5 : u < vu
    · rw [show grU vh vu vh u = vu by unfold grU mxi; rw [if_pos rfl, if_pos h5]] at HU
      go_enter Try.func15, Try.ntmps15
      go_wp2_with fail
      refine (formed_any vh f u now _).mono ?_
      rintro e w1 ⟨rfl, b1⟩
      rw [H0.out]
      have HV1 := Lib.hid (HV.out.step b1)
      have HL1 := Lib.hid (HL.out.step b1)
      have HO1 := Lib.hid (HO.out.step b1)
      have HB1 := Lib.hid (keep2 b1 HB.out)
      clear b1
      have hz1 := HV1.out.2.2
      have hz2 := HL1.out.2.2
      have hz3 := HO1.out.2.2
      have x0 := HV1.out.c 0 rfl
      have x1 := HV1.out.c 1 rfl
      have x2 := HV1.out.c 2 rfl
      have y0 := HL1.out.c 0 rfl
      have y1 := HL1.out.c 1 rfl
      have y2 := HL1.out.c 2 rfl
      have r0 := HO1.out.c 0 rfl
      have r1 := HO1.out.c 1 rfl
      have r2 := HO1.out.c 2 rfl
      have f0 := HO1.out.f 0 (by simp)
      have f1 := HO1.out.f 1 (by simp)
      have f2 := HO1.out.f 2 (by simp)
      go_wp2
      exact bodyPost_ret (v := .tuple #[.agg #[.int .i64 f, .int .i64 vh, .int .i64 vu], .bool true]) (by simp [results, Try.results15, go_sem, r0, r1, r2, hz3]) rfl ⟨by rw [HU.out], (by repeat (first | with_reducible exact HB1.out | with_reducible exact Below.refl _ _ | ((with_reducible refine Below.setCell ?_ ?_ _); rotate_left; focus (first | (simp; done) | (simp; omega) | omega)) | ((with_reducible refine Below.alloc ?_ ?_ _); rotate_left; focus (first | (simp; done) | (simp; omega) | omega)) | with_reducible refine Below.trans ?_ (below_drewN' _ _ _) | with_reducible refine Below.trans ?_ (below_drew _ _)))⟩
    · rw [show grU vh vu vh u = u by unfold grU mxi; rw [if_pos rfl, if_neg h5]] at HU
      go_enter Try.func15, Try.ntmps15
      go_wp2_with fail
      refine (formed_any vh f u now _).mono ?_
      rintro e w1 ⟨rfl, b1⟩
      rw [H0.out]
      have HV1 := Lib.hid (HV.out.step b1)
      have HL1 := Lib.hid (HL.out.step b1)
      have HO1 := Lib.hid (HO.out.step b1)
      have HB1 := Lib.hid (keep2 b1 HB.out)
      clear b1
      have hz1 := HV1.out.2.2
      have hz2 := HL1.out.2.2
      have hz3 := HO1.out.2.2
      have x0 := HV1.out.c 0 rfl
      have x1 := HV1.out.c 1 rfl
      have x2 := HV1.out.c 2 rfl
      have y0 := HL1.out.c 0 rfl
      have y1 := HL1.out.c 1 rfl
      have y2 := HL1.out.c 2 rfl
      have r0 := HO1.out.c 0 rfl
      have r1 := HO1.out.c 1 rfl
      have r2 := HO1.out.c 2 rfl
      have f0 := HO1.out.f 0 (by simp)
      have f1 := HO1.out.f 1 (by simp)
      have f2 := HO1.out.f 2 (by simp)
      go_wp2
      exact bodyPost_ret (v := .tuple #[.agg #[.int .i64 f, .int .i64 vh, .int .i64 u], .bool true]) (by simp [results, Try.results15, go_sem, r0, r1, r2, hz3]) rfl ⟨by rw [HU.out], (by repeat (first | with_reducible exact HB1.out | with_reducible exact Below.refl _ _ | ((with_reducible refine Below.setCell ?_ ?_ _); rotate_left; focus (first | (simp; done) | (simp; omega) | omega)) | ((with_reducible refine Below.alloc ?_ ?_ _); rotate_left; focus (first | (simp; done) | (simp; omega) | omega)) | with_reducible refine Below.trans ?_ (below_drewN' _ _ _) | with_reducible refine Below.trans ?_ (below_drew _ _)))⟩
  · have HU := Lib.hid (show votedV vf vh vu h f u now = vtc f h (grU vh vu h u) by unfold votedV; rw [hq]; rfl)
    rw [hq]
    have H0 := Lib.hid h0
    clear h0 hq
    unfold vtc at HU
    have q1 : decide (f ≤ vf) = false := by simp; omega
    have q3 : ¬ f ≤ vf := by omega
    by_cases h6 : vh = h
    · subst h6
      by_cases h5 : u < vu
      · rw [show grU vh vu vh u = vu by unfold grU mxi; rw [if_pos rfl, if_pos h5]] at HU
        go_enter Try.func15, Try.ntmps15
        go_wp2_with fail
        refine (formed_any vh f u now _).mono ?_
        rintro e w1 ⟨rfl, b1⟩
        rw [H0.out]
        have HV1 := Lib.hid (HV.out.step b1)
        have HL1 := Lib.hid (HL.out.step b1)
        have HO1 := Lib.hid (HO.out.step b1)
        have HB1 := Lib.hid (keep2 b1 HB.out)
        clear b1
        have hz1 := HV1.out.2.2
        have hz2 := HL1.out.2.2
        have hz3 := HO1.out.2.2
        have x0 := HV1.out.c 0 rfl
        have x1 := HV1.out.c 1 rfl
        have x2 := HV1.out.c 2 rfl
        have y0 := HL1.out.c 0 rfl
        have y1 := HL1.out.c 1 rfl
        have y2 := HL1.out.c 2 rfl
        have r0 := HO1.out.c 0 rfl
        have r1 := HO1.out.c 1 rfl
        have r2 := HO1.out.c 2 rfl
        have f0 := HO1.out.f 0 (by simp)
        have f1 := HO1.out.f 1 (by simp)
        have f2 := HO1.out.f 2 (by simp)
        go_wp2
        exact bodyPost_ret (v := .tuple #[.agg #[.int .i64 f, .int .i64 vh, .int .i64 vu], .bool true]) (by simp [results, Try.results15, go_sem, r0, r1, r2, hz3]) rfl ⟨by rw [HU.out], (by repeat (first | with_reducible exact HB1.out | with_reducible exact Below.refl _ _ | ((with_reducible refine Below.setCell ?_ ?_ _); rotate_left; focus (first | (simp; done) | (simp; omega) | omega)) | ((with_reducible refine Below.alloc ?_ ?_ _); rotate_left; focus (first | (simp; done) | (simp; omega) | omega)) | with_reducible refine Below.trans ?_ (below_drewN' _ _ _) | with_reducible refine Below.trans ?_ (below_drew _ _)))⟩
      · rw [show grU vh vu vh u = u by unfold grU mxi; rw [if_pos rfl, if_neg h5]] at HU
        go_enter Try.func15, Try.ntmps15
        go_wp2_with fail
        refine (formed_any vh f u now _).mono ?_
        rintro e w1 ⟨rfl, b1⟩
        rw [H0.out]
        have HV1 := Lib.hid (HV.out.step b1)
        have HL1 := Lib.hid (HL.out.step b1)
        have HO1 := Lib.hid (HO.out.step b1)
        have HB1 := Lib.hid (keep2 b1 HB.out)
        clear b1
        have hz1 := HV1.out.2.2
        have hz2 := HL1.out.2.2
        have hz3 := HO1.out.2.2
        have x0 := HV1.out.c 0 rfl
        have x1 := HV1.out.c 1 rfl
        have x2 := HV1.out.c 2 rfl
        have y0 := HL1.out.c 0 rfl
        have y1 := HL1.out.c 1 rfl
        have y2 := HL1.out.c 2 rfl
        have r0 := HO1.out.c 0 rfl
        have r1 := HO1.out.c 1 rfl
        have r2 := HO1.out.c 2 rfl
        have f0 := HO1.out.f 0 (by simp)
        have f1 := HO1.out.f 1 (by simp)
        have f2 := HO1.out.f 2 (by simp)
        go_wp2
        exact bodyPost_ret (v := .tuple #[.agg #[.int .i64 f, .int .i64 vh, .int .i64 u], .bool true]) (by simp [results, Try.results15, go_sem, r0, r1, r2, hz3]) rfl ⟨by rw [HU.out], (by repeat (first | with_reducible exact HB1.out | with_reducible exact Below.refl _ _ | ((with_reducible refine Below.setCell ?_ ?_ _); rotate_left; focus (first | (simp; done) | (simp; omega) | omega)) | ((with_reducible refine Below.alloc ?_ ?_ _); rotate_left; focus (first | (simp; done) | (simp; omega) | omega)) | with_reducible refine Below.trans ?_ (below_drewN' _ _ _) | with_reducible refine Below.trans ?_ (below_drew _ _)))⟩
    · rw [show grU vh vu h u = u by unfold grU; rw [if_neg h6]] at HU
      have q6 : (vh == h) = false := by simpa using h6
      clear h6
      go_enter Try.func15, Try.ntmps15
      go_wp2_with fail
      refine (formed_any h f u now _).mono ?_
      rintro e w1 ⟨rfl, b1⟩
      rw [H0.out]
      have HV1 := Lib.hid (HV.out.step b1)
      have HL1 := Lib.hid (HL.out.step b1)
      have HO1 := Lib.hid (HO.out.step b1)
      have HB1 := Lib.hid (keep2 b1 HB.out)
      clear b1
      have hz1 := HV1.out.2.2
      have hz2 := HL1.out.2.2
      have hz3 := HO1.out.2.2
      have x0 := HV1.out.c 0 rfl
      have x1 := HV1.out.c 1 rfl
      have x2 := HV1.out.c 2 rfl
      have y0 := HL1.out.c 0 rfl
      have y1 := HL1.out.c 1 rfl
      have y2 := HL1.out.c 2 rfl
      have r0 := HO1.out.c 0 rfl
      have r1 := HO1.out.c 1 rfl
      have r2 := HO1.out.c 2 rfl
      have f0 := HO1.out.f 0 (by simp)
      have f1 := HO1.out.f 1 (by simp)
      have f2 := HO1.out.f 2 (by simp)
      go_wp2
      exact bodyPost_ret (v := .tuple #[.agg #[.int .i64 f, .int .i64 h, .int .i64 u], .bool true]) (by simp [results, Try.results15, go_sem, r0, r1, r2, hz3]) rfl ⟨by rw [HU.out], (by repeat (first | with_reducible exact HB1.out | with_reducible exact Below.refl _ _ | ((with_reducible refine Below.setCell ?_ ?_ _); rotate_left; focus (first | (simp; done) | (simp; omega) | omega)) | ((with_reducible refine Below.alloc ?_ ?_ _); rotate_left; focus (first | (simp; done) | (simp; omega) | omega)) | with_reducible refine Below.trans ?_ (below_drewN' _ _ _) | with_reducible refine Below.trans ?_ (below_drew _ _)))⟩
end Go.Proofs.Ytelohejnbfefoaa
