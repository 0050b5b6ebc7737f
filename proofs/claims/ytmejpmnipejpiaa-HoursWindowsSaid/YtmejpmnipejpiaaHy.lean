/- Law HoursWindows: lists of windows appended; the walk. -/
import Derived.Test.YtmejpmnipejpiaaHya
import Derived.Test.YtmejpmnipejpiaaIv
namespace Go.Proofs.Ytmejpmnipejpiaa
open Go.RowKit Go.WideMaps

set_option maxRecDepth 100000 in
set_option maxHeartbeats 8000000 in
theorem hw_a (v : Value) (l : List (Int × Int)) (m wf wt : Int) (w : World) (h : WinsAt w v l) (hB : l.length * 16 ≤ 140737488351232) (hf : fine l m = false) : Calls Try.prog 7 #[v, .int .i64 m, .agg #[.int .i64 wf, .int .i64 wt]] w fun e w' => e = .returned (.bool true) ∧ Below w.heap.size w w' := by
  have B0 := al w (.cells #[.int .i64 wf, .int .i64 wt] 40)
  have HS := Lib.hid (h.step B0)
  have HX := Lib.hid (boxN_new w #[.int .i64 wf, .int .i64 wt] 40)
  have HB := Lib.hid B0
  clear B0
  obtain ⟨va, vc, rfl, -, hPm, -⟩ := h
  replace hf := Lib.hid hf
  go_enter Try.func7, Try.ntmps7
  go_wp2_with fail
  refine (head_any _).mono ?_
  rintro e w2 ⟨rfl, b2⟩
  replace HS := Lib.hid (HS.out.step b2)
  replace HX := Lib.hid (HX.out.step b2)
  replace HB := Lib.hid (keep2 b2 HB.out)
  clear b2
  go_upto_region 2 with fail
  have hB2 := hB
  clear hB
  obtain ⟨lit, hlit⟩ : ∃ lit : (Nat → Value) → Act, lit = fun vs => { tmps := List.toArray (Value.slice va l.length vc :: Value.int IntKind.i64 m :: Value.agg #[Value.int IntKind.i64 wf, Value.int IntKind.i64 wt] :: undef :: undef :: Value.pointer (some { block := w.heap.size, off := 0 }) :: Value.bool false :: Value.bool true :: vs 6 :: undef :: undef :: undef :: undef :: Value.bool true :: vs 0 :: vs 1 :: vs 2 :: vs 3 :: vs 4 :: vs 5 :: undef :: undef :: undef :: undef :: undef :: undef :: undef :: undef :: undef :: undef :: undef :: undef :: undef :: undef :: undef :: undef :: undef :: undef :: undef :: undef :: undef :: undef :: undef :: undef :: undef :: undef :: undef :: undef :: undef :: undef :: undef :: undef :: undef :: undef :: undef :: undef :: undef :: undef :: undef :: undef :: undef :: undef :: undef :: undef :: undef :: undef :: undef :: undef :: undef :: undef :: undef :: undef :: undef :: undef :: undef :: undef :: undef :: undef :: undef :: undef :: undef :: undef :: undef :: undef :: undef :: undef :: undef :: undef :: undef :: undef :: undef :: undef :: []), defers := [] } := ⟨_, rfl⟩
  have HLIT := Lib.hid hlit
  clear hlit
  obtain ⟨val, hval⟩ : ∃ val : List Value, val = [undef, .slice va l.length vc, undef, .agg #[.int .i64 wf, .int .i64 wt], undef, undef, undef] := ⟨_, rfl⟩
  have E1 := Lib.hid (show val.getD 1 undef = .slice va l.length vc by rw [hval]; rfl)
  have E3 := Lib.hid (show val.getD 3 undef = .agg #[.int .i64 wf, .int .i64 wt] by rw [hval]; rfl)
  clear hval
  obtain ⟨G, hG0⟩ : ∃ G, G = Ga val 0 2 4 5 6 40 2 (l.length) (wcs l) #[.int .i64 wf, .int .i64 wt] w2.heap.size := ⟨_, rfl⟩
  have HG := Lib.hid hG0
  clear hG0
  obtain ⟨i0, hi, hz0, hz1, hz2⟩ := info_parts info40
  refine region_inv (NA lit 2 5 6 G (Below w2.heap.size w2)) (by kernel_rfl) (by decide +kernel) ?_ ?_ ?_
  · exact ⟨fun i => ([undef, undef, undef, undef, undef, undef, undef] : List Value).getD i undef, (by rw [HLIT.out]; rfl), fun h => (by cases h), fun h => (by cases h), below_drew _ _, fun i h => (by cases h)⟩
  · refine ⟨?_, ?_, ?_, ?_, ?_, ?_, ?_, trivial⟩
    · intro bf ac wv hfb haf hJ K' hK
      obtain ⟨vs, rfl, j1, j2, hM, j4⟩ := hJ
      replace hK := Lib.hid hK
      have HM := Lib.hid hM
      clear hM
      rw [HG.out] at j4
      clear haf
      replace j4 := Lib.hid (And.intro j1 (And.intro j2 j4))
      clear j1 j2
      rw [HLIT.out]
      go_simp
      exact hK.out _ _ (NA.next (vs := vs) 0 (fun h => by omega) (fun h => by omega) (up_ne _ _ _ (by omega)) (up_ne _ _ _ (by omega)) (x := .slice (some ⟨wv.heap.size, 0, none⟩) 0 0) (by rw [HLIT.out]; rfl) (by rw [HG.out]; exact j4.out) (keep2 (al _ _) HM.out) (by rw [HG.out]; exact fun k _ _ h => Ga.step (al _ _) k _ h) (by rw [HG.out]; exact ⟨fun _ _ => ⟨wv.heap.size, rfl, HM.out.size, boxN_new wv #[] 40⟩, fun h => absurd h (by decide), fun h => absurd h (by decide), fun h => absurd h (by decide), fun h => absurd rfl h.1⟩))
    · intro bf ac wv hfb haf hJ K' hK
      obtain ⟨vs, rfl, j1, j2, hM, j4⟩ := hJ
      replace hK := Lib.hid hK
      have HM := Lib.hid hM
      clear hM
      rw [HG.out] at j4
      clear haf
      replace j4 := Lib.hid (And.intro j1 (And.intro j2 j4))
      clear j1 j2
      rw [HLIT.out]
      go_simp
      exact hK.out _ _ (NA.next (vs := vs) 1 (fun h => by omega) (fun h => by omega) (up_ne _ _ _ (by omega)) (up_ne _ _ _ (by omega)) (x := .slice va l.length vc) (by rw [HLIT.out]; rfl) (by rw [HG.out]; exact j4.out) HM.out (by rw [HG.out]; exact fun _ _ _ h => h) (by rw [HG.out]; exact ⟨fun h => absurd h (by decide), fun h => absurd h (by decide), fun h => absurd h (by decide), fun h => absurd h (by decide), fun _ => E1.out.symm⟩))
    · intro bf ac wv hfb haf hJ K' hK
      obtain ⟨vs, rfl, j1, j2, hM, j4⟩ := hJ
      replace hK := Lib.hid hK
      have HM := Lib.hid hM
      clear hM
      simp [Region.binds] at haf
      rw [HG.out] at j4
      have h2f : bf 5 = false := Bool.eq_false_iff.2 fun h => absurd ((j1 h).symm.trans hfb) (by simp)
      have hzf : bf 6 = false := Bool.eq_false_iff.2 fun h => absurd ((j2 h).symm.trans h2f) (by simp)
      rw [hfb, h2f] at j4
      obtain ⟨g2, e0, hg2, hb2⟩ := (j4 0 (by simp [haf])).1 rfl rfl
      have e1 : vs 1 = _ := ((j4 1 (by simp [haf])).2.2.2.2 ⟨by decide, by decide, by decide, by decide, by decide⟩).trans E1.out
      obtain ⟨ca, cc, cn⟩ := wcells (HS.out.step HM.out) rfl
      obtain ⟨v5, w5, hr5, ho5, hg5⟩ := run_app_gen (ty := 22) Try.underlying22 hi hz0 hz1 hz2 rfl (by decide) wv w2.heap.size 0 (.slice (some ⟨g2, 0, none⟩) 0 0) [] (empty_row hb2 hg2) _ _ _ (wcs l) ca cc cn (wcs_one l) (by first | (unfold maxLen at hPm ⊢; omega) | omega) (by first | (unfold maxLen at hPm ⊢; omega) | omega) HM.out.size
      rw [Nat.zero_add, List.nil_append] at ho5
      rw [HLIT.out]
      refine step_app rfl _ _ 22 rfl _ _ v5 e0 e1 hr5 ?_
      exact hK.out _ _ (NA.next (vs := vs) 2 (fun h => by omega) (fun h => by omega) (up_same _ _) ((up_ne _ _ _ (by omega)).trans h2f) (x := v5) (by rw [HLIT.out]; rfl) (by rw [HG.out, hfb, h2f]; exact ⟨fun h => (by cases h), fun h => (by rw [hzf] at h; cases h), j4⟩) (HM.out.grown hg5 HM.out.size (fun k e => by cases e; exact hg2)) (by
        rw [HG.out, hfb, h2f]
        exact fun k hk hbk h => ⟨fun _ d => (by cases d), fun e => absurd e hk, fun e d => (h.2.2.1 e d).imp fun g q => ⟨q.1, box_grown q.2 hg5 (fun e => box_size q.2 hb2 (by simp) (by cases e; rfl))⟩, fun e => e.elim (fun e => absurd ((e ▸ hbk : bf 5 = true).symm.trans h2f) (by simp)) (fun e => absurd ((e ▸ hbk : bf 6 = true).symm.trans hzf) (by simp)), h.2.2.2.2⟩) (by rw [HG.out]; exact ⟨fun h => absurd h (by decide), fun _ _ => ho5, fun h => absurd h (by decide), fun h => absurd h (by decide), fun h => absurd rfl h.2.1⟩))
    · intro bf ac wv hfb haf hJ K' hK
      obtain ⟨vs, rfl, j1, j2, hM, j4⟩ := hJ
      replace hK := Lib.hid hK
      have HM := Lib.hid hM
      clear hM
      rw [HG.out] at j4
      clear haf
      replace j4 := Lib.hid (And.intro j1 (And.intro j2 j4))
      clear j1 j2
      have xb := HX.out.step HM.out
      have xx0 := xb.cell 0
      have xx1 := xb.cell 1
      have xl := xb.lt
      simp at xx0 xx1
      clear xb
      rw [HLIT.out]
      go_simp
      exact hK.out _ _ (NA.next (vs := vs) 3 (fun h => by omega) (fun h => by omega) (up_ne _ _ _ (by omega)) (up_ne _ _ _ (by omega)) (x := .agg #[.int .i64 wf, .int .i64 wt]) (by rw [HLIT.out]; rfl) (by rw [HG.out]; exact j4.out) HM.out (by rw [HG.out]; exact fun _ _ _ h => h) (by rw [HG.out]; exact ⟨fun h => absurd h (by decide), fun h => absurd h (by decide), fun h => absurd h (by decide), fun h => absurd h (by decide), fun _ => E3.out.symm⟩))
    · intro bf ac wv hfb haf hJ K' hK
      obtain ⟨vs, rfl, j1, j2, hM, j4⟩ := hJ
      replace hK := Lib.hid hK
      have HM := Lib.hid hM
      clear hM
      simp [Region.binds] at haf
      rw [HG.out] at j4
      have e3 : vs 3 = _ := ((j4 3 (by simp [haf])).2.2.2.2 ⟨by decide, by decide, by decide, by decide, by decide⟩).trans E3.out
      clear haf
      replace j4 := Lib.hid (And.intro j1 (And.intro j2 j4))
      clear j1 j2
      rw [HLIT.out]
      go_simp
      exact hK.out _ _ (NA.next (vs := vs) 4 (fun h => by omega) (fun h => by omega) (up_ne _ _ _ (by omega)) (up_ne _ _ _ (by omega)) (x := .slice (some ⟨wv.heap.size, 0, none⟩) 1 1) (by rw [HLIT.out]; simp only [upv, e3, Nat.reduceBEq, cond_true, cond_false]) (by rw [HG.out]; exact j4.out) (keep2 (al _ _) HM.out) (by rw [HG.out]; exact fun k _ _ h => Ga.step (al _ _) k _ h) (by rw [HG.out]; exact ⟨fun h => absurd h (by decide), fun h => absurd h (by decide), fun _ _ => ⟨wv.heap.size, rfl, boxN_new wv #[.int .i64 wf, .int .i64 wt] 40⟩, fun h => absurd h (by decide), fun h => absurd rfl h.2.2.1⟩))
    · intro bf ac wv hfb haf hJ K' hK
      obtain ⟨vs, rfl, j1, j2, hM, j4⟩ := hJ
      replace hK := Lib.hid hK
      have HM := Lib.hid hM
      clear hM
      simp [Region.binds] at haf
      rw [HG.out] at j4
      have hzf : bf 6 = false := Bool.eq_false_iff.2 fun h => absurd ((j2 h).symm.trans hfb) (by simp)
      have h1t : bf 2 = true := by simp [haf]
      rw [hfb, h1t] at j4
      have e2 := (j4 2 h1t).2.1 rfl rfl
      obtain ⟨g7, e4, hb7⟩ := (j4 4 (by simp [haf])).2.2.1 rfl rfl
      obtain ⟨v8, w8, hr8, ho8, hg8⟩ := run_app_gen (ty := 22) Try.underlying22 hi hz0 hz1 hz2 rfl (by decide) wv w2.heap.size (l.length) (vs 2) (wcs l) e2 (some ⟨g7, 0, none⟩) 1 1 (#[.int .i64 wf, .int .i64 wt]).toList (by simp) (news_of hb7) (fun h => by cases h) (by simp [Value.oneCell']) (by first | (unfold maxLen at hPm ⊢; omega) | omega) (by first | (unfold maxLen at hPm ⊢; omega) | omega) HM.out.size
      rw [HLIT.out]
      refine step_app rfl _ _ 22 rfl _ _ v8 rfl e4 hr8 ?_
      exact hK.out _ _ (NA.next (vs := vs) 5 (fun _ => h1t) (fun h => by omega) ((up_ne _ _ _ (by omega)).trans h1t) (up_same _ _) (x := v8) (by rw [HLIT.out]; rfl) (by rw [HG.out, hfb, h1t]; exact ⟨fun h => (by cases h), fun h => (by rw [hzf] at h; cases h), j4⟩) (HM.out.grown hg8 HM.out.size (fun k e => row_own' e2 k e)) (by
        rw [HG.out, hfb, h1t]
        exact fun k hk hbk h => ⟨fun _ d => (by cases d), fun _ d => (by cases d), fun _ d => (by cases d), fun e => e.elim (fun e => absurd e hk) (fun e => absurd ((e ▸ hbk : bf 6 = true).symm.trans hzf) (by simp)), h.2.2.2.2⟩) (by rw [HG.out]; exact ⟨fun h => absurd h (by decide), fun h => absurd h (by decide), fun h => absurd h (by decide), fun _ => ho8, fun h => absurd rfl h.2.2.2.1⟩))
    · intro bf ac wv hfb haf hJ K' hK
      obtain ⟨vs, rfl, j1, j2, hM, j4⟩ := hJ
      replace hK := Lib.hid hK
      have HM := Lib.hid hM
      clear hM
      simp [Region.binds] at haf
      rw [HG.out] at j4
      have e5 := (j4 5 (by simp [haf])).2.2.2.1 (.inl rfl)
      have h2t : bf 5 = true := by simp [haf]
      obtain ⟨a7, c7, hx7⟩ := row_slice e5
      have R7 := Lib.hid e5
      rw [hx7] at R7
      clear e5
      clear haf
      replace j4 := Lib.hid (And.intro j1 (And.intro j2 j4))
      clear j1 j2
      rw [HLIT.out]
      go_simp
      exact hK.out _ _ (NA.next (vs := vs) 6 (fun h => by omega) (fun _ => h2t) (up_ne _ _ _ (by omega)) (up_ne _ _ _ (by omega)) (x := .slice a7 (l.length + 1) c7) (by rw [HLIT.out]; simp only [upv, hx7, Nat.reduceBEq, cond_true, cond_false]) (by rw [HG.out]; exact j4.out) HM.out (by rw [HG.out]; exact fun _ _ _ h => h) (by rw [HG.out]; exact ⟨fun h => absurd h (by decide), fun h => absurd h (by decide), fun h => absurd h (by decide), fun _ => R7.out, fun h => absurd rfl h.2.2.2.2⟩))
  · intro bf ac wv hall hJ
    obtain ⟨us, rfl, -, -, hM, j4⟩ := hJ
    rw [HG.out] at j4
    have hrz := (j4 6 (hall 6 (by decide))).2.2.2.1 (.inr rfl)
    clear j4 hall
    obtain ⟨a7, c7, hx7⟩ := row_slice hrz
    rw [hx7] at hrz
    rw [HLIT.out]
    dsimp only
    rw [hx7]
    clear hx7 HLIT HG E1 E3 hi hz0 hz1 hz2
    have HR := Lib.hid hrz
    clear hrz
    replace HS := Lib.hid (HS.out.step hM)
    replace HX := Lib.hid (HX.out.step hM)
    replace HB := Lib.hid (keep2 hM HB.out)
    have HM2 := Lib.hid (show WinsAt wv (.slice a7 (l.length + 1) c7) (l ++ [(wf, wt)]) from by
      have h2 : RowW w2.heap.size (.slice a7 (l.length + 1) c7) (l ++ [(wf, wt)]) wv := by unfold RowW; rw [List.length_append, wcs_app]; exact HR.out
      exact h2.at)
    clear hM HR
    unfold maxLen at hPm
    go_wp2_with fail
    refine (fine_q _ l m _ hf.out _ HS.out).mono ?_
    rintro e w3 ⟨rfl, b3⟩
    have HB4 := Lib.hid (keep2 b3 HB.out)
    clear b3
    go_wp2
    go_ret
    exact ⟨rfl, HB4.out⟩
set_option maxRecDepth 100000 in
set_option maxHeartbeats 8000000 in
theorem hw_b (v : Value) (l : List (Int × Int)) (m wf wt : Int) (w : World) (h : WinsAt w v l) (hB : l.length * 16 ≤ 140737488351232) (hf : fine l m = true) (hg : fine (l ++ [(wf, wt)]) m = false) : Calls Try.prog 7 #[v, .int .i64 m, .agg #[.int .i64 wf, .int .i64 wt]] w fun e w' => e = .returned (.bool true) ∧ Below w.heap.size w w' := by
  have B0 := al w (.cells #[.int .i64 wf, .int .i64 wt] 40)
  have HS := Lib.hid (h.step B0)
  have HX := Lib.hid (boxN_new w #[.int .i64 wf, .int .i64 wt] 40)
  have HB := Lib.hid B0
  clear B0
  obtain ⟨va, vc, rfl, -, hPm, -⟩ := h
  replace hf := Lib.hid hf
  replace hg := Lib.hid hg
  go_enter Try.func7, Try.ntmps7
  go_wp2_with fail
  refine (head_any _).mono ?_
  rintro e w2 ⟨rfl, b2⟩
  replace HS := Lib.hid (HS.out.step b2)
  replace HX := Lib.hid (HX.out.step b2)
  replace HB := Lib.hid (keep2 b2 HB.out)
  clear b2
  go_upto_region 2 with fail
  have hB2 := hB
  clear hB
  obtain ⟨lit, hlit⟩ : ∃ lit : (Nat → Value) → Act, lit = fun vs => { tmps := List.toArray (Value.slice va l.length vc :: Value.int IntKind.i64 m :: Value.agg #[Value.int IntKind.i64 wf, Value.int IntKind.i64 wt] :: undef :: undef :: Value.pointer (some { block := w.heap.size, off := 0 }) :: Value.bool false :: Value.bool true :: vs 6 :: undef :: undef :: undef :: undef :: Value.bool true :: vs 0 :: vs 1 :: vs 2 :: vs 3 :: vs 4 :: vs 5 :: undef :: undef :: undef :: undef :: undef :: undef :: undef :: undef :: undef :: undef :: undef :: undef :: undef :: undef :: undef :: undef :: undef :: undef :: undef :: undef :: undef :: undef :: undef :: undef :: undef :: undef :: undef :: undef :: undef :: undef :: undef :: undef :: undef :: undef :: undef :: undef :: undef :: undef :: undef :: undef :: undef :: undef :: undef :: undef :: undef :: undef :: undef :: undef :: undef :: undef :: undef :: undef :: undef :: undef :: undef :: undef :: undef :: undef :: undef :: undef :: undef :: undef :: undef :: undef :: undef :: undef :: undef :: undef :: undef :: undef :: undef :: undef :: []), defers := [] } := ⟨_, rfl⟩
  have HLIT := Lib.hid hlit
  clear hlit
  obtain ⟨val, hval⟩ : ∃ val : List Value, val = [undef, .slice va l.length vc, undef, .agg #[.int .i64 wf, .int .i64 wt], undef, undef, undef] := ⟨_, rfl⟩
  have E1 := Lib.hid (show val.getD 1 undef = .slice va l.length vc by rw [hval]; rfl)
  have E3 := Lib.hid (show val.getD 3 undef = .agg #[.int .i64 wf, .int .i64 wt] by rw [hval]; rfl)
  clear hval
  obtain ⟨G, hG0⟩ : ∃ G, G = Ga val 0 2 4 5 6 40 2 (l.length) (wcs l) #[.int .i64 wf, .int .i64 wt] w2.heap.size := ⟨_, rfl⟩
  have HG := Lib.hid hG0
  clear hG0
  obtain ⟨i0, hi, hz0, hz1, hz2⟩ := info_parts info40
  refine region_inv (NA lit 2 5 6 G (Below w2.heap.size w2)) (by kernel_rfl) (by decide +kernel) ?_ ?_ ?_
  · exact ⟨fun i => ([undef, undef, undef, undef, undef, undef, undef] : List Value).getD i undef, (by rw [HLIT.out]; rfl), fun h => (by cases h), fun h => (by cases h), below_drew _ _, fun i h => (by cases h)⟩
  · refine ⟨?_, ?_, ?_, ?_, ?_, ?_, ?_, trivial⟩
    · intro bf ac wv hfb haf hJ K' hK
      obtain ⟨vs, rfl, j1, j2, hM, j4⟩ := hJ
      replace hK := Lib.hid hK
      have HM := Lib.hid hM
      clear hM
      rw [HG.out] at j4
      clear haf
      replace j4 := Lib.hid (And.intro j1 (And.intro j2 j4))
      clear j1 j2
      rw [HLIT.out]
      go_simp
      exact hK.out _ _ (NA.next (vs := vs) 0 (fun h => by omega) (fun h => by omega) (up_ne _ _ _ (by omega)) (up_ne _ _ _ (by omega)) (x := .slice (some ⟨wv.heap.size, 0, none⟩) 0 0) (by rw [HLIT.out]; rfl) (by rw [HG.out]; exact j4.out) (keep2 (al _ _) HM.out) (by rw [HG.out]; exact fun k _ _ h => Ga.step (al _ _) k _ h) (by rw [HG.out]; exact ⟨fun _ _ => ⟨wv.heap.size, rfl, HM.out.size, boxN_new wv #[] 40⟩, fun h => absurd h (by decide), fun h => absurd h (by decide), fun h => absurd h (by decide), fun h => absurd rfl h.1⟩))
    · intro bf ac wv hfb haf hJ K' hK
      obtain ⟨vs, rfl, j1, j2, hM, j4⟩ := hJ
      replace hK := Lib.hid hK
      have HM := Lib.hid hM
      clear hM
      rw [HG.out] at j4
      clear haf
      replace j4 := Lib.hid (And.intro j1 (And.intro j2 j4))
      clear j1 j2
      rw [HLIT.out]
      go_simp
      exact hK.out _ _ (NA.next (vs := vs) 1 (fun h => by omega) (fun h => by omega) (up_ne _ _ _ (by omega)) (up_ne _ _ _ (by omega)) (x := .slice va l.length vc) (by rw [HLIT.out]; rfl) (by rw [HG.out]; exact j4.out) HM.out (by rw [HG.out]; exact fun _ _ _ h => h) (by rw [HG.out]; exact ⟨fun h => absurd h (by decide), fun h => absurd h (by decide), fun h => absurd h (by decide), fun h => absurd h (by decide), fun _ => E1.out.symm⟩))
    · intro bf ac wv hfb haf hJ K' hK
      obtain ⟨vs, rfl, j1, j2, hM, j4⟩ := hJ
      replace hK := Lib.hid hK
      have HM := Lib.hid hM
      clear hM
      simp [Region.binds] at haf
      rw [HG.out] at j4
      have h2f : bf 5 = false := Bool.eq_false_iff.2 fun h => absurd ((j1 h).symm.trans hfb) (by simp)
      have hzf : bf 6 = false := Bool.eq_false_iff.2 fun h => absurd ((j2 h).symm.trans h2f) (by simp)
      rw [hfb, h2f] at j4
      obtain ⟨g2, e0, hg2, hb2⟩ := (j4 0 (by simp [haf])).1 rfl rfl
      have e1 : vs 1 = _ := ((j4 1 (by simp [haf])).2.2.2.2 ⟨by decide, by decide, by decide, by decide, by decide⟩).trans E1.out
      obtain ⟨ca, cc, cn⟩ := wcells (HS.out.step HM.out) rfl
      obtain ⟨v5, w5, hr5, ho5, hg5⟩ := run_app_gen (ty := 22) Try.underlying22 hi hz0 hz1 hz2 rfl (by decide) wv w2.heap.size 0 (.slice (some ⟨g2, 0, none⟩) 0 0) [] (empty_row hb2 hg2) _ _ _ (wcs l) ca cc cn (wcs_one l) (by first | (unfold maxLen at hPm ⊢; omega) | omega) (by first | (unfold maxLen at hPm ⊢; omega) | omega) HM.out.size
      rw [Nat.zero_add, List.nil_append] at ho5
      rw [HLIT.out]
      refine step_app rfl _ _ 22 rfl _ _ v5 e0 e1 hr5 ?_
      exact hK.out _ _ (NA.next (vs := vs) 2 (fun h => by omega) (fun h => by omega) (up_same _ _) ((up_ne _ _ _ (by omega)).trans h2f) (x := v5) (by rw [HLIT.out]; rfl) (by rw [HG.out, hfb, h2f]; exact ⟨fun h => (by cases h), fun h => (by rw [hzf] at h; cases h), j4⟩) (HM.out.grown hg5 HM.out.size (fun k e => by cases e; exact hg2)) (by
        rw [HG.out, hfb, h2f]
        exact fun k hk hbk h => ⟨fun _ d => (by cases d), fun e => absurd e hk, fun e d => (h.2.2.1 e d).imp fun g q => ⟨q.1, box_grown q.2 hg5 (fun e => box_size q.2 hb2 (by simp) (by cases e; rfl))⟩, fun e => e.elim (fun e => absurd ((e ▸ hbk : bf 5 = true).symm.trans h2f) (by simp)) (fun e => absurd ((e ▸ hbk : bf 6 = true).symm.trans hzf) (by simp)), h.2.2.2.2⟩) (by rw [HG.out]; exact ⟨fun h => absurd h (by decide), fun _ _ => ho5, fun h => absurd h (by decide), fun h => absurd h (by decide), fun h => absurd rfl h.2.1⟩))
    · intro bf ac wv hfb haf hJ K' hK
      obtain ⟨vs, rfl, j1, j2, hM, j4⟩ := hJ
      replace hK := Lib.hid hK
      have HM := Lib.hid hM
      clear hM
      rw [HG.out] at j4
      clear haf
      replace j4 := Lib.hid (And.intro j1 (And.intro j2 j4))
      clear j1 j2
      have xb := HX.out.step HM.out
      have xx0 := xb.cell 0
      have xx1 := xb.cell 1
      have xl := xb.lt
      simp at xx0 xx1
      clear xb
      rw [HLIT.out]
      go_simp
      exact hK.out _ _ (NA.next (vs := vs) 3 (fun h => by omega) (fun h => by omega) (up_ne _ _ _ (by omega)) (up_ne _ _ _ (by omega)) (x := .agg #[.int .i64 wf, .int .i64 wt]) (by rw [HLIT.out]; rfl) (by rw [HG.out]; exact j4.out) HM.out (by rw [HG.out]; exact fun _ _ _ h => h) (by rw [HG.out]; exact ⟨fun h => absurd h (by decide), fun h => absurd h (by decide), fun h => absurd h (by decide), fun h => absurd h (by decide), fun _ => E3.out.symm⟩))
    · intro bf ac wv hfb haf hJ K' hK
      obtain ⟨vs, rfl, j1, j2, hM, j4⟩ := hJ
      replace hK := Lib.hid hK
      have HM := Lib.hid hM
      clear hM
      simp [Region.binds] at haf
      rw [HG.out] at j4
      have e3 : vs 3 = _ := ((j4 3 (by simp [haf])).2.2.2.2 ⟨by decide, by decide, by decide, by decide, by decide⟩).trans E3.out
      clear haf
      replace j4 := Lib.hid (And.intro j1 (And.intro j2 j4))
      clear j1 j2
      rw [HLIT.out]
      go_simp
      exact hK.out _ _ (NA.next (vs := vs) 4 (fun h => by omega) (fun h => by omega) (up_ne _ _ _ (by omega)) (up_ne _ _ _ (by omega)) (x := .slice (some ⟨wv.heap.size, 0, none⟩) 1 1) (by rw [HLIT.out]; simp only [upv, e3, Nat.reduceBEq, cond_true, cond_false]) (by rw [HG.out]; exact j4.out) (keep2 (al _ _) HM.out) (by rw [HG.out]; exact fun k _ _ h => Ga.step (al _ _) k _ h) (by rw [HG.out]; exact ⟨fun h => absurd h (by decide), fun h => absurd h (by decide), fun _ _ => ⟨wv.heap.size, rfl, boxN_new wv #[.int .i64 wf, .int .i64 wt] 40⟩, fun h => absurd h (by decide), fun h => absurd rfl h.2.2.1⟩))
    · intro bf ac wv hfb haf hJ K' hK
      obtain ⟨vs, rfl, j1, j2, hM, j4⟩ := hJ
      replace hK := Lib.hid hK
      have HM := Lib.hid hM
      clear hM
      simp [Region.binds] at haf
      rw [HG.out] at j4
      have hzf : bf 6 = false := Bool.eq_false_iff.2 fun h => absurd ((j2 h).symm.trans hfb) (by simp)
      have h1t : bf 2 = true := by simp [haf]
      rw [hfb, h1t] at j4
      have e2 := (j4 2 h1t).2.1 rfl rfl
      obtain ⟨g7, e4, hb7⟩ := (j4 4 (by simp [haf])).2.2.1 rfl rfl
      obtain ⟨v8, w8, hr8, ho8, hg8⟩ := run_app_gen (ty := 22) Try.underlying22 hi hz0 hz1 hz2 rfl (by decide) wv w2.heap.size (l.length) (vs 2) (wcs l) e2 (some ⟨g7, 0, none⟩) 1 1 (#[.int .i64 wf, .int .i64 wt]).toList (by simp) (news_of hb7) (fun h => by cases h) (by simp [Value.oneCell']) (by first | (unfold maxLen at hPm ⊢; omega) | omega) (by first | (unfold maxLen at hPm ⊢; omega) | omega) HM.out.size
      rw [HLIT.out]
      refine step_app rfl _ _ 22 rfl _ _ v8 rfl e4 hr8 ?_
      exact hK.out _ _ (NA.next (vs := vs) 5 (fun _ => h1t) (fun h => by omega) ((up_ne _ _ _ (by omega)).trans h1t) (up_same _ _) (x := v8) (by rw [HLIT.out]; rfl) (by rw [HG.out, hfb, h1t]; exact ⟨fun h => (by cases h), fun h => (by rw [hzf] at h; cases h), j4⟩) (HM.out.grown hg8 HM.out.size (fun k e => row_own' e2 k e)) (by
        rw [HG.out, hfb, h1t]
        exact fun k hk hbk h => ⟨fun _ d => (by cases d), fun _ d => (by cases d), fun _ d => (by cases d), fun e => e.elim (fun e => absurd e hk) (fun e => absurd ((e ▸ hbk : bf 6 = true).symm.trans hzf) (by simp)), h.2.2.2.2⟩) (by rw [HG.out]; exact ⟨fun h => absurd h (by decide), fun h => absurd h (by decide), fun h => absurd h (by decide), fun _ => ho8, fun h => absurd rfl h.2.2.2.1⟩))
    · intro bf ac wv hfb haf hJ K' hK
      obtain ⟨vs, rfl, j1, j2, hM, j4⟩ := hJ
      replace hK := Lib.hid hK
      have HM := Lib.hid hM
      clear hM
      simp [Region.binds] at haf
      rw [HG.out] at j4
      have e5 := (j4 5 (by simp [haf])).2.2.2.1 (.inl rfl)
      have h2t : bf 5 = true := by simp [haf]
      obtain ⟨a7, c7, hx7⟩ := row_slice e5
      have R7 := Lib.hid e5
      rw [hx7] at R7
      clear e5
      clear haf
      replace j4 := Lib.hid (And.intro j1 (And.intro j2 j4))
      clear j1 j2
      rw [HLIT.out]
      go_simp
      exact hK.out _ _ (NA.next (vs := vs) 6 (fun h => by omega) (fun _ => h2t) (up_ne _ _ _ (by omega)) (up_ne _ _ _ (by omega)) (x := .slice a7 (l.length + 1) c7) (by rw [HLIT.out]; simp only [upv, hx7, Nat.reduceBEq, cond_true, cond_false]) (by rw [HG.out]; exact j4.out) HM.out (by rw [HG.out]; exact fun _ _ _ h => h) (by rw [HG.out]; exact ⟨fun h => absurd h (by decide), fun h => absurd h (by decide), fun h => absurd h (by decide), fun _ => R7.out, fun h => absurd rfl h.2.2.2.2⟩))
  · intro bf ac wv hall hJ
    obtain ⟨us, rfl, -, -, hM, j4⟩ := hJ
    rw [HG.out] at j4
    have hrz := (j4 6 (hall 6 (by decide))).2.2.2.1 (.inr rfl)
    clear j4 hall
    obtain ⟨a7, c7, hx7⟩ := row_slice hrz
    rw [hx7] at hrz
    rw [HLIT.out]
    dsimp only
    rw [hx7]
    clear hx7 HLIT HG E1 E3 hi hz0 hz1 hz2
    have HR := Lib.hid hrz
    clear hrz
    replace HS := Lib.hid (HS.out.step hM)
    replace HX := Lib.hid (HX.out.step hM)
    replace HB := Lib.hid (keep2 hM HB.out)
    have HM2 := Lib.hid (show WinsAt wv (.slice a7 (l.length + 1) c7) (l ++ [(wf, wt)]) from by
      have h2 : RowW w2.heap.size (.slice a7 (l.length + 1) c7) (l ++ [(wf, wt)]) wv := by unfold RowW; rw [List.length_append, wcs_app]; exact HR.out
      exact h2.at)
    clear hM HR
    unfold maxLen at hPm
    go_wp2_with fail
    refine (fine_q _ l m _ hf.out _ HS.out).mono ?_
    rintro e w3 ⟨rfl, b3⟩
    replace HS := Lib.hid (HS.out.step b3)
    replace HX := Lib.hid (HX.out.step b3)
    replace HB := Lib.hid (keep2 b3 HB.out)
    replace HM2 := Lib.hid (HM2.out.step b3)
    clear b3
    go_wp2_with fail
    refine (fine_q _ (l ++ [(wf, wt)]) m _ hg.out _ HM2.out).mono ?_
    rintro e w4 ⟨rfl, b4⟩
    have HB4 := Lib.hid (keep2 b4 HB.out)
    clear b4
    go_wp2
    go_ret
    exact ⟨rfl, HB4.out⟩
set_option maxRecDepth 100000 in
set_option maxHeartbeats 8000000 in
theorem hw_c (v : Value) (l : List (Int × Int)) (m wf wt : Int) (w : World) (h : WinsAt w v l) (hB : l.length * 16 ≤ 140737488351232) (hf : fine l m = true) (hg : fine (l ++ [(wf, wt)]) m = true) : Calls Try.prog 7 #[v, .int .i64 m, .agg #[.int .i64 wf, .int .i64 wt]] w fun e w' => e = .returned (.bool true) ∧ Below w.heap.size w w' := by
  have B0 := al w (.cells #[.int .i64 wf, .int .i64 wt] 40)
  have HS := Lib.hid (h.step B0)
  have HX := Lib.hid (boxN_new w #[.int .i64 wf, .int .i64 wt] 40)
  have HB := Lib.hid B0
  clear B0
  obtain ⟨va, vc, rfl, -, hPm, -⟩ := h
  have FF := Lib.hid (win_facts hf hg)
  replace hf := Lib.hid hf
  replace hg := Lib.hid hg
  go_enter Try.func7, Try.ntmps7
  go_wp2_with fail
  refine (head_any _).mono ?_
  rintro e w2 ⟨rfl, b2⟩
  replace HS := Lib.hid (HS.out.step b2)
  replace HX := Lib.hid (HX.out.step b2)
  replace HB := Lib.hid (keep2 b2 HB.out)
  clear b2
  go_upto_region 2 with fail
  have hB2 := hB
  clear hB
  obtain ⟨lit, hlit⟩ : ∃ lit : (Nat → Value) → Act, lit = fun vs => { tmps := List.toArray (Value.slice va l.length vc :: Value.int IntKind.i64 m :: Value.agg #[Value.int IntKind.i64 wf, Value.int IntKind.i64 wt] :: undef :: undef :: Value.pointer (some { block := w.heap.size, off := 0 }) :: Value.bool false :: Value.bool true :: vs 6 :: undef :: undef :: undef :: undef :: Value.bool true :: vs 0 :: vs 1 :: vs 2 :: vs 3 :: vs 4 :: vs 5 :: undef :: undef :: undef :: undef :: undef :: undef :: undef :: undef :: undef :: undef :: undef :: undef :: undef :: undef :: undef :: undef :: undef :: undef :: undef :: undef :: undef :: undef :: undef :: undef :: undef :: undef :: undef :: undef :: undef :: undef :: undef :: undef :: undef :: undef :: undef :: undef :: undef :: undef :: undef :: undef :: undef :: undef :: undef :: undef :: undef :: undef :: undef :: undef :: undef :: undef :: undef :: undef :: undef :: undef :: undef :: undef :: undef :: undef :: undef :: undef :: undef :: undef :: undef :: undef :: undef :: undef :: undef :: undef :: undef :: undef :: undef :: undef :: []), defers := [] } := ⟨_, rfl⟩
  have HLIT := Lib.hid hlit
  clear hlit
  obtain ⟨val, hval⟩ : ∃ val : List Value, val = [undef, .slice va l.length vc, undef, .agg #[.int .i64 wf, .int .i64 wt], undef, undef, undef] := ⟨_, rfl⟩
  have E1 := Lib.hid (show val.getD 1 undef = .slice va l.length vc by rw [hval]; rfl)
  have E3 := Lib.hid (show val.getD 3 undef = .agg #[.int .i64 wf, .int .i64 wt] by rw [hval]; rfl)
  clear hval
  obtain ⟨G, hG0⟩ : ∃ G, G = Ga val 0 2 4 5 6 40 2 (l.length) (wcs l) #[.int .i64 wf, .int .i64 wt] w2.heap.size := ⟨_, rfl⟩
  have HG := Lib.hid hG0
  clear hG0
  obtain ⟨i0, hi, hz0, hz1, hz2⟩ := info_parts info40
  refine region_inv (NA lit 2 5 6 G (Below w2.heap.size w2)) (by kernel_rfl) (by decide +kernel) ?_ ?_ ?_
  · exact ⟨fun i => ([undef, undef, undef, undef, undef, undef, undef] : List Value).getD i undef, (by rw [HLIT.out]; rfl), fun h => (by cases h), fun h => (by cases h), below_drew _ _, fun i h => (by cases h)⟩
  · refine ⟨?_, ?_, ?_, ?_, ?_, ?_, ?_, trivial⟩
    · intro bf ac wv hfb haf hJ K' hK
      obtain ⟨vs, rfl, j1, j2, hM, j4⟩ := hJ
      replace hK := Lib.hid hK
      have HM := Lib.hid hM
      clear hM
      rw [HG.out] at j4
      clear haf
      replace j4 := Lib.hid (And.intro j1 (And.intro j2 j4))
      clear j1 j2
      rw [HLIT.out]
      go_simp
      exact hK.out _ _ (NA.next (vs := vs) 0 (fun h => by omega) (fun h => by omega) (up_ne _ _ _ (by omega)) (up_ne _ _ _ (by omega)) (x := .slice (some ⟨wv.heap.size, 0, none⟩) 0 0) (by rw [HLIT.out]; rfl) (by rw [HG.out]; exact j4.out) (keep2 (al _ _) HM.out) (by rw [HG.out]; exact fun k _ _ h => Ga.step (al _ _) k _ h) (by rw [HG.out]; exact ⟨fun _ _ => ⟨wv.heap.size, rfl, HM.out.size, boxN_new wv #[] 40⟩, fun h => absurd h (by decide), fun h => absurd h (by decide), fun h => absurd h (by decide), fun h => absurd rfl h.1⟩))
    · intro bf ac wv hfb haf hJ K' hK
      obtain ⟨vs, rfl, j1, j2, hM, j4⟩ := hJ
      replace hK := Lib.hid hK
      have HM := Lib.hid hM
      clear hM
      rw [HG.out] at j4
      clear haf
      replace j4 := Lib.hid (And.intro j1 (And.intro j2 j4))
      clear j1 j2
      rw [HLIT.out]
      go_simp
      exact hK.out _ _ (NA.next (vs := vs) 1 (fun h => by omega) (fun h => by omega) (up_ne _ _ _ (by omega)) (up_ne _ _ _ (by omega)) (x := .slice va l.length vc) (by rw [HLIT.out]; rfl) (by rw [HG.out]; exact j4.out) HM.out (by rw [HG.out]; exact fun _ _ _ h => h) (by rw [HG.out]; exact ⟨fun h => absurd h (by decide), fun h => absurd h (by decide), fun h => absurd h (by decide), fun h => absurd h (by decide), fun _ => E1.out.symm⟩))
    · intro bf ac wv hfb haf hJ K' hK
      obtain ⟨vs, rfl, j1, j2, hM, j4⟩ := hJ
      replace hK := Lib.hid hK
      have HM := Lib.hid hM
      clear hM
      simp [Region.binds] at haf
      rw [HG.out] at j4
      have h2f : bf 5 = false := Bool.eq_false_iff.2 fun h => absurd ((j1 h).symm.trans hfb) (by simp)
      have hzf : bf 6 = false := Bool.eq_false_iff.2 fun h => absurd ((j2 h).symm.trans h2f) (by simp)
      rw [hfb, h2f] at j4
      obtain ⟨g2, e0, hg2, hb2⟩ := (j4 0 (by simp [haf])).1 rfl rfl
      have e1 : vs 1 = _ := ((j4 1 (by simp [haf])).2.2.2.2 ⟨by decide, by decide, by decide, by decide, by decide⟩).trans E1.out
      obtain ⟨ca, cc, cn⟩ := wcells (HS.out.step HM.out) rfl
      obtain ⟨v5, w5, hr5, ho5, hg5⟩ := run_app_gen (ty := 22) Try.underlying22 hi hz0 hz1 hz2 rfl (by decide) wv w2.heap.size 0 (.slice (some ⟨g2, 0, none⟩) 0 0) [] (empty_row hb2 hg2) _ _ _ (wcs l) ca cc cn (wcs_one l) (by first | (unfold maxLen at hPm ⊢; omega) | omega) (by first | (unfold maxLen at hPm ⊢; omega) | omega) HM.out.size
      rw [Nat.zero_add, List.nil_append] at ho5
      rw [HLIT.out]
      refine step_app rfl _ _ 22 rfl _ _ v5 e0 e1 hr5 ?_
      exact hK.out _ _ (NA.next (vs := vs) 2 (fun h => by omega) (fun h => by omega) (up_same _ _) ((up_ne _ _ _ (by omega)).trans h2f) (x := v5) (by rw [HLIT.out]; rfl) (by rw [HG.out, hfb, h2f]; exact ⟨fun h => (by cases h), fun h => (by rw [hzf] at h; cases h), j4⟩) (HM.out.grown hg5 HM.out.size (fun k e => by cases e; exact hg2)) (by
        rw [HG.out, hfb, h2f]
        exact fun k hk hbk h => ⟨fun _ d => (by cases d), fun e => absurd e hk, fun e d => (h.2.2.1 e d).imp fun g q => ⟨q.1, box_grown q.2 hg5 (fun e => box_size q.2 hb2 (by simp) (by cases e; rfl))⟩, fun e => e.elim (fun e => absurd ((e ▸ hbk : bf 5 = true).symm.trans h2f) (by simp)) (fun e => absurd ((e ▸ hbk : bf 6 = true).symm.trans hzf) (by simp)), h.2.2.2.2⟩) (by rw [HG.out]; exact ⟨fun h => absurd h (by decide), fun _ _ => ho5, fun h => absurd h (by decide), fun h => absurd h (by decide), fun h => absurd rfl h.2.1⟩))
    · intro bf ac wv hfb haf hJ K' hK
      obtain ⟨vs, rfl, j1, j2, hM, j4⟩ := hJ
      replace hK := Lib.hid hK
      have HM := Lib.hid hM
      clear hM
      rw [HG.out] at j4
      clear haf
      replace j4 := Lib.hid (And.intro j1 (And.intro j2 j4))
      clear j1 j2
      have xb := HX.out.step HM.out
      have xx0 := xb.cell 0
      have xx1 := xb.cell 1
      have xl := xb.lt
      simp at xx0 xx1
      clear xb
      rw [HLIT.out]
      go_simp
      exact hK.out _ _ (NA.next (vs := vs) 3 (fun h => by omega) (fun h => by omega) (up_ne _ _ _ (by omega)) (up_ne _ _ _ (by omega)) (x := .agg #[.int .i64 wf, .int .i64 wt]) (by rw [HLIT.out]; rfl) (by rw [HG.out]; exact j4.out) HM.out (by rw [HG.out]; exact fun _ _ _ h => h) (by rw [HG.out]; exact ⟨fun h => absurd h (by decide), fun h => absurd h (by decide), fun h => absurd h (by decide), fun h => absurd h (by decide), fun _ => E3.out.symm⟩))
    · intro bf ac wv hfb haf hJ K' hK
      obtain ⟨vs, rfl, j1, j2, hM, j4⟩ := hJ
      replace hK := Lib.hid hK
      have HM := Lib.hid hM
      clear hM
      simp [Region.binds] at haf
      rw [HG.out] at j4
      have e3 : vs 3 = _ := ((j4 3 (by simp [haf])).2.2.2.2 ⟨by decide, by decide, by decide, by decide, by decide⟩).trans E3.out
      clear haf
      replace j4 := Lib.hid (And.intro j1 (And.intro j2 j4))
      clear j1 j2
      rw [HLIT.out]
      go_simp
      exact hK.out _ _ (NA.next (vs := vs) 4 (fun h => by omega) (fun h => by omega) (up_ne _ _ _ (by omega)) (up_ne _ _ _ (by omega)) (x := .slice (some ⟨wv.heap.size, 0, none⟩) 1 1) (by rw [HLIT.out]; simp only [upv, e3, Nat.reduceBEq, cond_true, cond_false]) (by rw [HG.out]; exact j4.out) (keep2 (al _ _) HM.out) (by rw [HG.out]; exact fun k _ _ h => Ga.step (al _ _) k _ h) (by rw [HG.out]; exact ⟨fun h => absurd h (by decide), fun h => absurd h (by decide), fun _ _ => ⟨wv.heap.size, rfl, boxN_new wv #[.int .i64 wf, .int .i64 wt] 40⟩, fun h => absurd h (by decide), fun h => absurd rfl h.2.2.1⟩))
    · intro bf ac wv hfb haf hJ K' hK
      obtain ⟨vs, rfl, j1, j2, hM, j4⟩ := hJ
      replace hK := Lib.hid hK
      have HM := Lib.hid hM
      clear hM
      simp [Region.binds] at haf
      rw [HG.out] at j4
      have hzf : bf 6 = false := Bool.eq_false_iff.2 fun h => absurd ((j2 h).symm.trans hfb) (by simp)
      have h1t : bf 2 = true := by simp [haf]
      rw [hfb, h1t] at j4
      have e2 := (j4 2 h1t).2.1 rfl rfl
      obtain ⟨g7, e4, hb7⟩ := (j4 4 (by simp [haf])).2.2.1 rfl rfl
      obtain ⟨v8, w8, hr8, ho8, hg8⟩ := run_app_gen (ty := 22) Try.underlying22 hi hz0 hz1 hz2 rfl (by decide) wv w2.heap.size (l.length) (vs 2) (wcs l) e2 (some ⟨g7, 0, none⟩) 1 1 (#[.int .i64 wf, .int .i64 wt]).toList (by simp) (news_of hb7) (fun h => by cases h) (by simp [Value.oneCell']) (by first | (unfold maxLen at hPm ⊢; omega) | omega) (by first | (unfold maxLen at hPm ⊢; omega) | omega) HM.out.size
      rw [HLIT.out]
      refine step_app rfl _ _ 22 rfl _ _ v8 rfl e4 hr8 ?_
      exact hK.out _ _ (NA.next (vs := vs) 5 (fun _ => h1t) (fun h => by omega) ((up_ne _ _ _ (by omega)).trans h1t) (up_same _ _) (x := v8) (by rw [HLIT.out]; rfl) (by rw [HG.out, hfb, h1t]; exact ⟨fun h => (by cases h), fun h => (by rw [hzf] at h; cases h), j4⟩) (HM.out.grown hg8 HM.out.size (fun k e => row_own' e2 k e)) (by
        rw [HG.out, hfb, h1t]
        exact fun k hk hbk h => ⟨fun _ d => (by cases d), fun _ d => (by cases d), fun _ d => (by cases d), fun e => e.elim (fun e => absurd e hk) (fun e => absurd ((e ▸ hbk : bf 6 = true).symm.trans hzf) (by simp)), h.2.2.2.2⟩) (by rw [HG.out]; exact ⟨fun h => absurd h (by decide), fun h => absurd h (by decide), fun h => absurd h (by decide), fun _ => ho8, fun h => absurd rfl h.2.2.2.1⟩))
    · intro bf ac wv hfb haf hJ K' hK
      obtain ⟨vs, rfl, j1, j2, hM, j4⟩ := hJ
      replace hK := Lib.hid hK
      have HM := Lib.hid hM
      clear hM
      simp [Region.binds] at haf
      rw [HG.out] at j4
      have e5 := (j4 5 (by simp [haf])).2.2.2.1 (.inl rfl)
      have h2t : bf 5 = true := by simp [haf]
      obtain ⟨a7, c7, hx7⟩ := row_slice e5
      have R7 := Lib.hid e5
      rw [hx7] at R7
      clear e5
      clear haf
      replace j4 := Lib.hid (And.intro j1 (And.intro j2 j4))
      clear j1 j2
      rw [HLIT.out]
      go_simp
      exact hK.out _ _ (NA.next (vs := vs) 6 (fun h => by omega) (fun _ => h2t) (up_ne _ _ _ (by omega)) (up_ne _ _ _ (by omega)) (x := .slice a7 (l.length + 1) c7) (by rw [HLIT.out]; simp only [upv, hx7, Nat.reduceBEq, cond_true, cond_false]) (by rw [HG.out]; exact j4.out) HM.out (by rw [HG.out]; exact fun _ _ _ h => h) (by rw [HG.out]; exact ⟨fun h => absurd h (by decide), fun h => absurd h (by decide), fun h => absurd h (by decide), fun _ => R7.out, fun h => absurd rfl h.2.2.2.2⟩))
  · intro bf ac wv hall hJ
    obtain ⟨us, rfl, -, -, hM, j4⟩ := hJ
    rw [HG.out] at j4
    have hrz := (j4 6 (hall 6 (by decide))).2.2.2.1 (.inr rfl)
    clear j4 hall
    obtain ⟨a7, c7, hx7⟩ := row_slice hrz
    rw [hx7] at hrz
    rw [HLIT.out]
    dsimp only
    rw [hx7]
    clear hx7 HLIT HG E1 E3 hi hz0 hz1 hz2
    have HR := Lib.hid hrz
    clear hrz
    replace HS := Lib.hid (HS.out.step hM)
    replace HX := Lib.hid (HX.out.step hM)
    replace HB := Lib.hid (keep2 hM HB.out)
    have HM2 := Lib.hid (show WinsAt wv (.slice a7 (l.length + 1) c7) (l ++ [(wf, wt)]) from by
      have h2 : RowW w2.heap.size (.slice a7 (l.length + 1) c7) (l ++ [(wf, wt)]) wv := by unfold RowW; rw [List.length_append, wcs_app]; exact HR.out
      exact h2.at)
    clear hM HR
    unfold maxLen at hPm
    go_wp2_with fail
    refine (fine_q _ l m _ hf.out _ HS.out).mono ?_
    rintro e w3 ⟨rfl, b3⟩
    replace HS := Lib.hid (HS.out.step b3)
    replace HX := Lib.hid (HX.out.step b3)
    replace HB := Lib.hid (keep2 b3 HB.out)
    replace HM2 := Lib.hid (HM2.out.step b3)
    clear b3
    go_wp2_with fail
    refine (fine_q _ (l ++ [(wf, wt)]) m _ hg.out _ HM2.out).mono ?_
    rintro e w4 ⟨rfl, b4⟩
    replace HS := Lib.hid (HS.out.step b4)
    replace HX := Lib.hid (HX.out.step b4)
    replace HB := Lib.hid (keep2 b4 HB.out)
    replace HM2 := Lib.hid (HM2.out.step b4)
    clear b4
    have h7 := FF.out.1
    go_wp2_with fail
    replace h7 := Lib.hid h7
    have h7b := h7.out
    go_loopw [9, 10] (fun bv iv wr => ∃ k : Nat, k ≤ l.length ∧ iv = .int .i64 ((k : Int) - 1) ∧ Hid (RowW w4.heap.size bv (l.drop k).reverse wr) ∧ Hid (Below w4.heap.size w4 wr)) (fun _ iv _ => (intOf iv + 1).toNat)
    case atStart => exact ⟨l.length, Nat.le_refl _, rfl, Lib.hid (by rw [List.drop_length]; exact RowW.nil _ _), Below.refl _ _⟩
    case round =>
      obtain ⟨k, hk, rfl, HR, HBL⟩ := hrel
      have hkl : (l.drop k).reverse.length = l.length - k := by simp
      have hrr := HR.out
      obtain ⟨ba, bc, rfl⟩ := row_slice hrr
      clear hrr
      cases k with
      | succ j =>
        have hlt : j < l.length := hk
        obtain ⟨a2, cap2, hva, -, -, hcs⟩ := HS.out.step HBL.out
        obtain ⟨rfl, rfl⟩ : va = a2 ∧ vc = cap2 := by simpa using hva
        obtain ⟨b, off, rfl, hcs2⟩ := hcs (by intro h; rw [h] at hlt; simp at hlt)
        obtain ⟨x0, x1⟩ := hcs2 j _ (win_get (d := (0, 0)) hlt)
        clear hcs hcs2 hva
        have HD := Lib.hid (drop_rev hlt)
        obtain ⟨p, hp⟩ : ∃ p, l.getD j (0, 0) = p := ⟨_, rfl⟩
        rw [hp] at x0 x1 HD
        clear hp
        obtain ⟨pf, pt⟩ := p
        simp only at x0 x1
        have xb : b < wr.heap.size := World.block_lt_of_cell? _ _ x0
        have t1 : ((j + 1 : Nat) : Int) - 1 = j := by omega
        have t2 : (j : Int) + 1 - 1 = j := by omega
        obtain ⟨v5, w5, q5, r5, g5⟩ := app_one (w := wr.alloc (.cells #[.int .i64 pf, .int .i64 pt] 40)) (HR.out.step (al _ _)) (boxN_new wr #[.int .i64 pf, .int .i64 pt] 40) (by rw [hkl]; omega) (by have := HBL.out.size; simp; omega)
        have H5 := Lib.hid ((HBL.out.alloc HBL.out.size (.cells #[.int .i64 pf, .int .i64 pt] 40)).grown g5 (by have := HBL.out.size; simp; omega) (fun z hz => row_own' HR.out z hz))
        rw [← HD.out] at r5
        have R5 := Lib.hid r5
        obtain ⟨a5, c5, rfl⟩ := row_slice r5
        clear r5 g5
        replace hkl := Lib.hid hkl
        obtain ⟨L1, hL1⟩ : ∃ z, (l.drop (j + 1)).reverse.length = z := ⟨_, rfl⟩
        obtain ⟨L2, hL2⟩ : ∃ z, (l.drop j).reverse.length = z := ⟨_, rfl⟩
        rw [hL1, hL2] at q5
        rw [hL1]
        rw [hL2] at R5
        clear hL1 hL2 hkl
        go_wp2_with (at_builtin; refine wpList_app rfl (.tmp 38) (.tmp 43) 22 rfl _ _ (.slice a5 L2 c5) rfl rfl q5 ?_)
        go_roundw
        case rel => exact ⟨j, by omega, by go_num, R5, H5⟩
        case measure => simp [intOf]
      | zero =>
        have t1 : ((0 : Nat) : Int) - 1 = -1 := rfl
        rw [List.drop_zero] at HR hkl
        rw [List.drop_zero, List.length_reverse]
        rw [List.length_reverse] at HR
        clear hkl
        obtain ⟨q, hq⟩ : ∃ z, qui l m = z := ⟨_, rfl⟩
        obtain ⟨ow, ho⟩ : ∃ z, qui [(wf, wt)] m = z := ⟨_, rfl⟩
        obtain ⟨-, hr, hm, hx⟩ := FF.out
        rw [hq] at hr hm hx
        rw [ho] at hm
        clear FF
        replace hq := Lib.hid hq
        replace ho := Lib.hid ho
        replace hr := Lib.hid hr
        replace hm := Lib.hid hm
        have FX := Lib.hid hx
        clear hx
        by_cases hl : l = []
        · replace hl := Lib.hid hl
          cases q <;> cases ow
          all_goals
            go_wp2_with fail
            refine (quiet_q _ l m _ hq.out _ (HS.out.step HBL.out)).mono ?_
            rintro e w5 ⟨rfl, b5⟩
            have H5 := Lib.hid (keep2 b5 HBL.out)
            have R5 := Lib.hid (HR.out.step b5)
            clear b5
            have x0 := ((HX.out.step H5.out).cell 0).trans (rfl : _ = some (Value.int .i64 wf))
            have x1 := ((HX.out.step H5.out).cell 1).trans (rfl : _ = some (Value.int .i64 wt))
            have xb := (HX.out.step H5.out).lt
            go_wp2_with fail
            refine (quiet_q _ [(wf, wt)] m _ ho.out _ (wins_lit w5 [(wf, wt)] #[.int .i64 wf, .int .i64 wt] 40 rfl 1 _ rfl (by decide) rfl)).mono ?_
            rintro e w6 ⟨rfl, b6⟩
            have H6 := Lib.hid (keep2 (keep2 b6 (al w5 (.cells #[.int .i64 wf, .int .i64 wt] 40))) H5.out)
            have R6 := Lib.hid (R5.out.step (keep2 b6 (al w5 (.cells #[.int .i64 wf, .int .i64 wt] 40))))
            clear b6 x0 x1 xb
            go_wp2_with fail
            refine (quiet_q _ l.reverse m _ hr.out _ R6.out.at).mono ?_
            rintro e w7 ⟨rfl, b7⟩
            have H7 := Lib.hid (keep2 b7 H6.out)
            have R7 := Lib.hid (R6.out.step b7)
            clear b7
            go_wp2_with fail
            refine (quiet_q _ (l ++ [(wf, wt)]) m _ hm.out _ (HM2.out.step H7.out)).mono ?_
            rintro e w8 ⟨rfl, b8⟩
            have H8 := Lib.hid (keep2 b8 H7.out)
            have R8 := Lib.hid (R7.out.step b8)
            clear b8
            have e1 : ((l.length : Int) == 0) = true := by rw [hl.out]; rfl
            have HF := Lib.hid (HB.out.trans (H8.out.mono HB.out.size))
            go_wp2
            go_ret
            exact ⟨rfl, HF.out⟩
        · replace hl := Lib.hid hl
          cases q <;> cases ow
          all_goals
            go_wp2_with fail
            refine (quiet_q _ l m _ hq.out _ (HS.out.step HBL.out)).mono ?_
            rintro e w5 ⟨rfl, b5⟩
            have H5 := Lib.hid (keep2 b5 HBL.out)
            have R5 := Lib.hid (HR.out.step b5)
            clear b5
            have x0 := ((HX.out.step H5.out).cell 0).trans (rfl : _ = some (Value.int .i64 wf))
            have x1 := ((HX.out.step H5.out).cell 1).trans (rfl : _ = some (Value.int .i64 wt))
            have xb := (HX.out.step H5.out).lt
            go_wp2_with fail
            refine (quiet_q _ [(wf, wt)] m _ ho.out _ (wins_lit w5 [(wf, wt)] #[.int .i64 wf, .int .i64 wt] 40 rfl 1 _ rfl (by decide) rfl)).mono ?_
            rintro e w6 ⟨rfl, b6⟩
            have H6 := Lib.hid (keep2 (keep2 b6 (al w5 (.cells #[.int .i64 wf, .int .i64 wt] 40))) H5.out)
            have R6 := Lib.hid (R5.out.step (keep2 b6 (al w5 (.cells #[.int .i64 wf, .int .i64 wt] 40))))
            clear b6 x0 x1 xb
            go_wp2_with fail
            refine (quiet_q _ l.reverse m _ hr.out _ R6.out.at).mono ?_
            rintro e w7 ⟨rfl, b7⟩
            have H7 := Lib.hid (keep2 b7 H6.out)
            have R7 := Lib.hid (R6.out.step b7)
            clear b7
            go_wp2_with fail
            refine (quiet_q _ (l ++ [(wf, wt)]) m _ hm.out _ (HM2.out.step H7.out)).mono ?_
            rintro e w8 ⟨rfl, b8⟩
            have H8 := Lib.hid (keep2 b8 H7.out)
            have R8 := Lib.hid (R7.out.step b8)
            clear b8
            have e1 : ((l.length : Int) == 0) = false := by have := hl.out; simp [this]
            have e2 : ((l.length : Int) == 8) = false := by simp; omega
            have hlt : 0 < l.length := by have := hl.out; exact List.length_pos_iff.2 this
            obtain ⟨a2, cap2, hva, -, -, hcs⟩ := HS.out.step H8.out
            obtain ⟨rfl, rfl⟩ : va = a2 ∧ vc = cap2 := by simpa using hva
            obtain ⟨b, off, rfl, hcs2⟩ := hcs hl.out
            obtain ⟨x0, x1⟩ := hcs2 0 _ (win_get (d := (0, 0)) hlt)
            clear hcs hcs2 hva
            have hxq := FX.out _ (show l.getD 0 (0, 0) ∈ l by rw [show l.getD 0 (0, 0) = l[0] by simp [hlt]]; exact List.getElem_mem hlt)
            obtain ⟨p, hp⟩ : ∃ p, l.getD 0 (0, 0) = p := ⟨_, rfl⟩
            rw [hp] at x0 x1 hxq
            clear hp
            obtain ⟨pf, pt⟩ := p
            simp only at x0 x1
            rw [show off + 0 * 2 = off by omega] at x0
            rw [show off + 0 * 2 + 1 = off + 1 by omega] at x1
            have xb : b < w8.heap.size := World.block_lt_of_cell? _ _ x0
            have HXQ := Lib.hid hxq
            clear hxq
            have hl0 : ¬ l = [] := hl.out
            obtain ⟨v9, w9, q9, r9, g9⟩ := app_one (w := w8.alloc (.cells #[.int .i64 pf, .int .i64 pt] 40)) (R8.out.step (al _ _)) (boxN_new w8 #[.int .i64 pf, .int .i64 pt] 40) (by simp; omega) (by have := H8.out.size; simp; omega)
            have H9 := Lib.hid ((H8.out.alloc H8.out.size (.cells #[.int .i64 pf, .int .i64 pt] 40)).grown g9 (by have := H8.out.size; simp; omega) (fun z hz => row_own' R8.out z hz))
            have R9 := Lib.hid r9.at
            obtain ⟨a9, c9, rfl⟩ := row_slice r9
            clear r9 g9
            rw [show (l.reverse ++ [(pf, pt)]).length = l.length + 1 by simp] at *
            go_wp2_with (at_builtin; refine wpList_app_g (.tmp 80) (.tmp 84) 22 rfl (by simp [Region.wanted, yielded]) _ _ (.slice a9 (l.length + 1) c9) rfl rfl q9 ?_)
            clear q9
            refine (quiet_q _ (l.reverse ++ [(pf, pt)]) m _ HXQ.out _ R9.out).mono ?_
            rintro e w10 ⟨rfl, b10⟩
            have HF := Lib.hid (HB.out.trans ((keep2 b10 H9.out).mono HB.out.size))
            clear b10
            go_wp2
            go_ret
            exact ⟨rfl, HF.out⟩
theorem windows_any (v : Value) (l : List (Int × Int)) (m wf wt : Int) (w : World) (h : WinsAt w v l) (hB : l.length * 16 ≤ 140737488351232) : Calls Try.prog 7 #[v, .int .i64 m, .agg #[.int .i64 wf, .int .i64 wt]] w fun e w' => e = .returned (.bool true) ∧ Below w.heap.size w w' := by
  cases hf : fine l m
  · exact hw_a v l m wf wt w h hB hf
  · cases hg : fine (l ++ [(wf, wt)]) m
    · exact hw_b v l m wf wt w h hB hf hg
    · exact hw_c v l m wf wt w h hB hf hg
end Go.Proofs.Ytmejpmnipejpiaa
