import Derived.Test.YteodafhgfcbdpaaLb
namespace Go.Proofs.Yteodafhgfcbdpaa
open Go.RowKit
attribute [local go_sem] Oper.semAt_some

set_option maxRecDepth 100000 in
set_option maxHeartbeats 4000000 in
theorem path_own_in (v : Value) (L : List (List Int)) (i : Nat) (w : World) (h : RowsAt w v L) (h9 : L.length ≤ 1000) (hi : i < L.length) : CallsIn Fence.wide 9 Try.prog 37 #[v, .int .i64 i] w fun e w' => ∃ u, e = .returned u ∧ w'.ownsRow w.heap.size 3 1 u (pthL (rowsT (lvs L)) i).length ((pthL (rowsT (lvs L)) i).map (Value.int .i64)) ∧ Below w.heap.size w w' := by
  have H := Lib.hid h
  obtain ⟨a, cap, rfl, -, -⟩ := h
  obtain ⟨i0, hi0, hz0, hz1, hz2⟩ := info_parts infoInt
  have g1 : decide ((L.length : Int) > 1000) = false := by simp; omega
  have g2 : decide ((1000 : Int) < L.length) = false := by simp; omega
  have g3 : decide ((i : Int) < 0) = false := by simp
  have g4 : decide ((L.length : Int) ≤ i) = false := by simp; omega
  have g5 : decide ((i : Int) ≥ L.length) = false := by simp; omega
  have g6 : decide (L.length ≤ i) = false := by simp; omega
  refine callsIn_of_wp_marks Try.func37 rfl trivial ?_ rfl
  simp only [Try.ntmps37, List.size_toArray, List.length_cons, List.length_nil, Nat.reduceAdd, Nat.reduceSub, Array.replicate_succ, Array.replicate_zero, List.push_toArray, List.append_toArray, List.nil_append, List.cons_append]
  gi_wp2_with (refine ⟨trivial, ?_⟩; gi_at_call 67; refine (callsIn_wide.2 (rows_any _ _ _ _)).mono ?_; rintro e w' ⟨rfl, rfl⟩)
  have bI := ((Boxed.new w 3 (.int .i64 i)).alloc (.cells #[.slice none 0 0] 22)).alloc (.cells #[.slice a L.length cap] 25)
  have bP := (Boxed.new (w.alloc (.cells #[.int .i64 i] 3)) 22 (.slice none 0 0)).alloc (.cells #[.slice a L.length cap] 25)
  have bL := BoxN.new ((w.alloc (.cells #[.int .i64 i] 3)).alloc (.cells #[.slice none 0 0] 22)) #[.slice a L.length cap] 25
  have hB0 : Below w.heap.size w (((w.alloc (.cells #[.int .i64 i] 3)).alloc (.cells #[.slice none 0 0] 22)).alloc (.cells #[.slice a L.length cap] 25)) := al3
  have hsz : (((w.alloc (.cells #[.int .i64 i] 3)).alloc (.cells #[.slice none 0 0] 22)).alloc (.cells #[.slice a L.length cap] 25)).heap.size = w.heap.size + 1 + 1 + 1 := by simp
  rw [World.size_alloc] at bP
  rw [World.size_alloc, World.size_alloc] at bL
  obtain ⟨W0, hW0⟩ : ∃ W0, ((w.alloc (.cells #[.int .i64 i] 3)).alloc (.cells #[.slice none 0 0] 22)).alloc (.cells #[.slice a L.length cap] 25) = W0 := ⟨_, rfl⟩
  rw [hW0] at bI bP bL hB0 hsz ⊢
  clear hW0
  refine range_rows (β := Nat) (by omega) (gf := 76) (lb := #[.pointer (some ⟨w.heap.size + 1 + 1, 0, none⟩)]) rfl (enters_of Try.func76 (by kernel_rfl) rfl) (iterR_seq L _ w H.out h9 8 (by omega) (w.heap.size + 1 + 1) W0 hB0 bL) rfl
    (PathI w i) id (fun _ _ _ h => h.2.1) (fun c s W => c = .exit 0 ∧ ∃ pre x b, s = pre ++ [x] ∧ x.length = 1 ∧ PathI w i pre b W)
    (fun b => PathI.own w i b _ (by omega))
    (fun c s W W' row hs hg hr => by
      obtain ⟨h0, pre, x, b, h1, h2, h3⟩ := hs
      exact ⟨h0, pre, x, b, h1, h2, PathI.own w i b W0.heap.size (by omega) pre W W' row h3 hg hr⟩)
    W0.heap.size ⟨⟨⟨bI, ⟨_, bP, World.ownsRow_nil _ _ _ _, fun k h => by cases h⟩⟩, hB0⟩, Nat.le_refl _, by omega, fun x hx => by cases hx⟩
    (fun v => { tmps := #[.slice a L.length cap, .int .i64 i, undef, .pointer (some ⟨w.heap.size, 0, none⟩), .slice none 0 0, .pointer (some ⟨w.heap.size + 1, 0, none⟩), v, undef, undef, .slice a L.length cap, .int .i64 L.length, .bool false, .bool false, .int .i64 i, .bool false, .bool false, .bool false, .int .i64 i, .slice a L.length cap, .int .i64 L.length, .bool false, .bool false, .slice a L.length cap, .func (.func 76) #[] #[.pointer (some ⟨w.heap.size + 1 + 1, 0, none⟩)], v, undef, undef, undef, undef, undef, undef, undef, undef, undef, undef, undef, undef, undef, undef, undef, undef, undef, undef, undef, undef], defers := [] }) ?assign ?body ?done ?stop
  case assign =>
    intro lp v W K hK
    gi_wp2
    exact hK
  case body =>
    rintro lp pre b x v W ⟨⟨⟨hI, ⟨pv, hP, hrow, hbd⟩⟩, hB⟩, hbs, hb2, hno⟩ ⟨g, c, rfl, hg, hx⟩ ⟨r, hr⟩
    have hg : b ≤ g := hg
    have hne : x ≠ [] := rowsT_ne hr
    have hPL := pre_len hr
    obtain ⟨pa, pc, rfl⟩ := row_slice hrow
    have c1 := hI.cell
    have f1 := hI.frozen
    have l1 := hI.lt
    have c2 := hP.cell
    have f2 := hP.frozen
    have l2 := hP.lt
    have HI := Lib.hid hI
    have HP := Lib.hid hP
    have HR := Lib.hid hrow
    have HB := Lib.hid hB
    have HX := Lib.hid hx
    have HD := Lib.hid hbd
    have HN := Lib.hid hno
    clear hI hP hrow hB hx hbd hno
    by_cases h1 : x.length = 1
    · have q1 : ((x.length : Int) == 1) = true := by simp; omega
      have q2 : ((x.length : Int) = 1) = True := by simp; omega
      gi_wp2
      exact ⟨KeepsOthers.refl _, rfl, pre, x, b, rfl, h1, ⟨⟨⟨HI.out, ⟨_, HP.out, HR.out, HD.out⟩⟩, HB.out⟩, hbs, hb2, HN.out⟩⟩
    · have q1 : ((x.length : Int) == 1) = false := by simp; omega
      have q2 : ((x.length : Int) = 1) = False := by simp; omega
      have hj := idxP_le pre i
      have HJ := Lib.hid hj
      have HS := Lib.hid (pthP_snoc pre x i)
      have HS2 := Lib.hid (idxP_snoc pre x i)
      generalize idxP pre i = j at *
      obtain ⟨m, hm⟩ : ∃ m, j / 2 = m := ⟨_, rfl⟩
      have hq : (j : Int).tdiv 2 = (m : Int) := by rw [Int.tdiv_eq_ediv_of_nonneg (by omega)]; omega
      have hw : wrap64 (m : Int) = (m : Int) := IntWalk.wrap64_in _ (by omega)
      replace hm := Lib.hid hm
      have hxo := xor_one (j := j) (by omega)
      have HAL := Lib.hid (fun y : Int => al W (.cells #[.int .i64 y] 3))
      have hBs : w.heap.size + 1 ≤ W.heap.size := by omega
      have hlv : (lvs L).length = L.length := lvs_len L
      obtain ⟨sb, hsb⟩ : ∃ s, sib j = s := ⟨_, rfl⟩
      rw [hsb] at hxo
      have HO := Lib.hid (show oth x j = if sb < x.length then x.getD sb 0 else -1 by unfold oth; rw [hsb])
      clear hsb
      by_cases hlt : sb < x.length
      · obtain ⟨a2, cap2, hva, -, hcs⟩ := HX.out
        obtain ⟨b1, off, ha, hcs2⟩ := hcs hne
        obtain ⟨rfl, rfl⟩ : b1 = g ∧ off = 0 := by
          simp only [Value.slice.injEq] at hva
          rw [ha] at hva
          simpa using hva.1.symm
        have x0 := hcs2 sb _ (getD_of hlt)
        rw [Nat.zero_add] at x0
        rw [if_pos hlt] at HO
        generalize x.getD sb 0 = y at *
        have t1 : decide ((sb : Int) < x.length) = true := by simp; omega
        have HCS := Lib.hid (Cs.new W W.heap.size #[.int .i64 y] 3 rfl)
        replace HAL := Lib.hid (HAL.out y)
        clear hcs2 hcs hva ha
        gi_wp2_with (gi_at_builtin; refine wpListIn_append_own _ rfl _ _ 22 rfl (w.heap.size + 1) 3 i0 (.int .i64 0) 1 8 Try.underlying22 hi0 hz0 hz1 hz2 rfl (by decide) _ _ _ rfl (row_step HR.out HAL.out) ⟨W.heap.size, 0, none⟩ 1 1 [.int .i64 y] rfl rfl (one_at (HCS.out)) (by simp [Value.oneCell']) (by unfold maxLen; omega) (by omega) (by simp; omega) ?_; intro v' w1 hown' hgrow _; obtain ⟨hv1, hv2, hr2, hk2, hbb⟩ := HP.out.appended (by decide) HR.out hBs (by omega) hown' hgrow; obtain ⟨va, vc, rfl⟩ := row_slice hown'; have HI3 := Lib.hid (((HI.out.alloc _).kept hgrow (fun e => by have := row_own HR.out e.symm; omega)).other (B' := w.heap.size + 1) (by omega) (.slice va (pre.length + 1) vc)); have HXX := Lib.hid (ints_other (ints_grown (HX.out.step HAL.out) hgrow (fun e => by have := HD.out _ e; omega)) (b := w.heap.size + 1) (by omega) 0 (.slice va (pre.length + 1) vc)); have p1 := hv1.cell; have p2 := hv1.frozen; have p3 := hv1.lt; have c3 := HI3.out.cell; have f3 := HI3.out.frozen; have l3 := HI3.out.lt; replace hv2 := Lib.hid hv2; replace hr2 := Lib.hid hr2; replace hk2 := Lib.hid hk2; replace hbb := Lib.hid hbb; clear hown' hgrow hv1)
        exact ⟨hk2.out.trans (KeepsOthers.setCell _ _ _), ⟨_, ⟨⟨by rw [HS2.out, hm.out]; exact HI3.out.set _, ⟨_, hv2.out.other (by omega) _, by rw [List.length_append, HS.out, List.map_append, HO.out]; exact ownsRow_setCell_below hr2.out (a := ⟨w.heap.size, 0, none⟩) (Nat.lt_succ_self _) _, fun k e => row_bound (ownsRow_setCell_below hr2.out (a := ⟨w.heap.size, 0, none⟩) (Nat.lt_succ_self _) (.int .i64 m)) e⟩⟩, (HB.out.trans (hbb.out.mono (by omega))).setCell (p := ⟨w.heap.size, 0, none⟩) (Nat.le_refl _) _⟩, Nat.le_refl _, by simp; exact p3, fun y hy => by
          rcases List.mem_append.1 hy with h | h
          · exact HN.out y h
          · simp at h; rw [h]; exact h1⟩, ints_other HXX.out (by omega) _ _⟩
      · rw [if_neg hlt] at HO
        obtain ⟨y, hy⟩ : ∃ y : Int, (-1 : Int) = y := ⟨_, rfl⟩
        have t1 : decide ((sb : Int) < x.length) = false := by simp; omega
        have HCS := Lib.hid (Cs.new W W.heap.size #[.int .i64 (-1)] 3 rfl)
        replace HAL := Lib.hid (HAL.out (-1))
        clear hy
        gi_wp2_with (gi_at_builtin; refine wpListIn_append_own _ rfl _ _ 22 rfl (w.heap.size + 1) 3 i0 (.int .i64 0) 1 8 Try.underlying22 hi0 hz0 hz1 hz2 rfl (by decide) _ _ _ rfl (row_step HR.out HAL.out) ⟨W.heap.size, 0, none⟩ 1 1 [.int .i64 (-1)] rfl rfl (one_at (HCS.out)) (by simp [Value.oneCell']) (by unfold maxLen; omega) (by omega) (by simp; omega) ?_; intro v' w1 hown' hgrow _; obtain ⟨hv1, hv2, hr2, hk2, hbb⟩ := HP.out.appended (by decide) HR.out hBs (by omega) hown' hgrow; obtain ⟨va, vc, rfl⟩ := row_slice hown'; have HI3 := Lib.hid (((HI.out.alloc _).kept hgrow (fun e => by have := row_own HR.out e.symm; omega)).other (B' := w.heap.size + 1) (by omega) (.slice va (pre.length + 1) vc)); have HXX := Lib.hid (ints_other (ints_grown (HX.out.step HAL.out) hgrow (fun e => by have := HD.out _ e; omega)) (b := w.heap.size + 1) (by omega) 0 (.slice va (pre.length + 1) vc)); have p1 := hv1.cell; have p2 := hv1.frozen; have p3 := hv1.lt; have c3 := HI3.out.cell; have f3 := HI3.out.frozen; have l3 := HI3.out.lt; replace hv2 := Lib.hid hv2; replace hr2 := Lib.hid hr2; replace hk2 := Lib.hid hk2; replace hbb := Lib.hid hbb; clear hown' hgrow hv1)
        exact ⟨hk2.out.trans (KeepsOthers.setCell _ _ _), ⟨_, ⟨⟨by rw [HS2.out, hm.out]; exact HI3.out.set _, ⟨_, hv2.out.other (by omega) _, by rw [List.length_append, HS.out, List.map_append, HO.out]; exact ownsRow_setCell_below hr2.out (a := ⟨w.heap.size, 0, none⟩) (Nat.lt_succ_self _) _, fun k e => row_bound (ownsRow_setCell_below hr2.out (a := ⟨w.heap.size, 0, none⟩) (Nat.lt_succ_self _) (.int .i64 m)) e⟩⟩, (HB.out.trans (hbb.out.mono (by omega))).setCell (p := ⟨w.heap.size, 0, none⟩) (Nat.le_refl _) _⟩, Nat.le_refl _, by simp; exact p3, fun y hy => by
          rcases List.mem_append.1 hy with h | h
          · exact HN.out y h
          · simp at h; rw [h]; exact h1⟩, ints_other HXX.out (by omega) _ _⟩
  case done =>
    rintro D b W hD ⟨-, -, -, hno⟩ hK
    obtain ⟨x, hx, h1⟩ := rowsT_last (row := lvs L) (by intro e; have := lvs_len L; rw [e] at this; simp at this; omega)
    exact absurd h1 (hno x hx)
  case stop =>
    rintro D c pre W hD ⟨r, hr⟩ ⟨rfl, pre2, x, b, rfl, h1, ⟨⟨⟨hI, ⟨pv, hP, hrow, hbd⟩⟩, hB⟩, hbs, hb2, hno⟩⟩ hK
    have hPL : pthL (rowsT (lvs L)) i = pthP pre2 i := by rw [hr, List.append_assoc]; exact pthL_stop pre2 x r i hno h1
    obtain ⟨pa, pc, rfl⟩ := row_slice hrow
    have hc := hP.cell
    have hl := hP.lt
    clear hI hP hbd
    gi_wp2
    refine ⟨by simp, .inl ⟨_, _, rfl, run_takeDeferred hK, ?_⟩⟩
    exact ⟨_, results_tmp rfl _ _ _, _, rfl, by
      rw [hPL, pthP_len]
      exact row_base (ownsRow_putObj hrow _ hK rfl) (Nat.le_succ _), hB.trans (belowK_b (w := w) (Nat.le_refl _) W D _ _ (by omega) hK rfl rfl)⟩
theorem path_own (v : Value) (L : List (List Int)) (j : Nat) (w : World) (h : RowsAt w v L) (h9 : L.length ≤ 1000) (hj : j < L.length) : Calls Try.prog 37 #[v, .int .i64 j] w fun e w' => ∃ u, e = .returned u ∧ w'.ownsRow w.heap.size 3 1 u (pthL (rowsT (lvs L)) j).length ((pthL (rowsT (lvs L)) j).map (Value.int .i64)) ∧ Below w.heap.size w w' :=
  callsIn_wide.1 (path_own_in v L j w h h9 hj)
end Go.Proofs.Yteodafhgfcbdpaa
