import Derived.Test.YteodafhgfcbdpaaRb
import Derived.Test.YteodafhgfcbdpaaUn
namespace Go.Proofs.Yteodafhgfcbdpaa
open Go.RowKit

theorem rows_idx : ∀ (n : Nat) (row : List Int) (j k : Nat), row.length ≤ n → j < row.length → k < (rowsT row).length → idxP ((rowsT row).take k) j < ((rowsT row).getD k []).length
  | 0, row, j, k, h, hj, _ => by omega
  | n + 1, row, j, k, h, hj, hk => by
    by_cases g : 1 < row.length
    · rw [rowsT_more g] at hk ⊢
      cases k with
      | zero => exact hj
      | succ k =>
        rw [List.take_succ_cons, List.getD_cons_succ]
        exact rows_idx n (upR row) (j / 2) k (by rw [upR_len]; omega) (by rw [upR_len]; omega) (by simpa using hk)
    · rw [rowsT_one (by omega)] at hk ⊢
      obtain rfl : k = 0 := by simpa using hk
      exact hj
theorem path_rows : ∀ (n : Nat) (row : List Int) (j : Nat), row.length ≤ n → row ≠ [] → pthL (rowsT row) j = pthP ((rowsT row).take ((rowsT row).length - 1)) j
  | 0, row, j, h, hn => absurd (List.length_eq_zero_iff.1 (by omega)) hn
  | n + 1, row, j, h, hn => by
    have hp := List.length_pos_iff.2 hn
    by_cases g : 1 < row.length
    · have hu : upR row ≠ [] := fun e => by have := upR_len row; rw [e] at this; simp at this; omega
      have h1 := rowsT_pos hu
      rw [rowsT_more g, pthL, if_neg (by omega), path_rows n (upR row) (j / 2) (by rw [upR_len]; omega) hu]
      obtain ⟨m, hm⟩ : ∃ m, (rowsT (upR row)).length = m + 1 := ⟨(rowsT (upR row)).length - 1, by omega⟩
      rw [List.length_cons, hm, Nat.add_sub_cancel, Nat.add_sub_cancel, List.take_succ_cons]
      rfl
    · have h1 : row.length = 1 := by omega
      rw [rowsT_one h1, pthL, if_pos h1]
      rfl
set_option maxRecDepth 100000 in
set_option maxHeartbeats 8000000 in
theorem rpath_own (v : Value) (L : List (List Int)) (j : Nat) (w : World) (h : RowsAt w v L) (h9 : L.length ≤ 1000) (hj : j < L.length) : Calls Try.prog 47 #[v, .int .i64 j] w fun e w' => ∃ u, e = .returned u ∧ w'.ownsRow w.heap.size 3 1 u (pthL (rowsT (lvs L)) j).length ((pthL (rowsT (lvs L)) j).map (Value.int .i64)) ∧ Below w.heap.size w w' := by
  have HR := Lib.hid h
  obtain ⟨a, cap, rfl, -, -⟩ := h
  obtain ⟨i0, hi, hz0, hz1, hz2⟩ := info_parts infoInt
  have HI := Lib.hid (show _ ∧ _ ∧ _ ∧ _ from ⟨hi, hz0, hz1, hz2⟩)
  have H9 := Lib.hid h9
  have HJ := Lib.hid hj
  have hn : lvs L ≠ [] := fun e => by have := congrArg List.length e; rw [lvs_len, List.length_nil] at this; omega
  have HP := Lib.hid (path_rows _ (lvs L) j (Nat.le_refl _) hn)
  have HN0 := Lib.hid (rowsT_pos hn)
  have HL9 := Lib.hid (show (rowsT (lvs L)).length ≤ 1000 from Nat.le_trans (rowsF_len (lvs L).length (lvs L)) (by rw [lvs_len]; exact h9))
  have HIX := Lib.hid (show ∀ k, k < (rowsT (lvs L)).length → idxP ((rowsT (lvs L)).take k) j < ((rowsT (lvs L)).getD k []).length from fun k hk => rows_idx _ (lvs L) j k (Nat.le_refl _) (by rw [lvs_len]; exact hj) hk)
  have g1 : decide ((j : Int) < 0) = false := by simp
  have g2 : decide ((j : Int) ≥ (L.length : Int)) = false := by simp; omega
  have g3 : decide ((L.length : Int) ≤ j) = false := by simp; omega
  have g4 : decide (L.length ≤ j) = false := by simp; omega
  clear hi hz0 hz1 hz2 h9 hj hn
  go_enter Try.func47, Try.ntmps47
  go_wp2_with fail
  refine (rtree_any _ L _ HR.out H9.out (by have := HJ.out; omega)).mono ?_
  rintro e w1 ⟨⟨u, rfl, hu⟩, b1⟩
  have HB := Lib.hid b1
  have HT := Lib.hid (hu.rows (by have := HL9.out; omega))
  obtain ⟨ua, uc, rfl⟩ := hu.slice
  clear b1 hu
  obtain ⟨Rs, hRs⟩ : ∃ Rs, rowsT (lvs L) = Rs := ⟨_, rfl⟩
  rw [hRs] at HP HN0 HL9 HIX HT ⊢
  have HRS := Lib.hid hRs
  clear hRs
  have hn0 := HN0.out
  have z1 : ((Rs.length : Int) == 0) = false := by simp; intro e; rw [e] at hn0; simp at hn0
  have z2 : ((Rs.length : Int) = 0) = False := by simp; intro e; rw [e] at hn0; simp at hn0
  have z3 : ¬ Rs = [] := fun e => by rw [e] at hn0; simp at hn0
  replace hn0 := Lib.hid hn0
  obtain ⟨W1, hW1⟩ : ∃ z, z = w1 := ⟨_, rfl⟩
  subst hW1
  go_wp2_with fail
  clear z1 z2 z3 g1 g2 g3 g4
  go_loopw [1, 6, 7] (fun iv ov kv wr => ∃ k : Nat, k + 1 ≤ Rs.length ∧ kv = .int .i64 k ∧ iv = .int .i64 (idxP (Rs.take k) j) ∧ Hid (wr.ownsRow W1.heap.size 3 1 ov k ((pthP (Rs.take k) j).map (Value.int .i64))) ∧ Hid (Below W1.heap.size W1 wr)) (fun _ _ kv _ => Rs.length - (intOf kv).toNat)
  case atStart => exact ⟨0, hn0.out, rfl, rfl, Lib.hid (World.ownsRow_nil _ _ _ _), Lib.hid (Below.refl _ _)⟩
  case round =>
    obtain ⟨k, hk, rfl, rfl, HN, HW⟩ := hrel
    obtain ⟨na, nc, rfl⟩ := row_slice HN.out
    have HK9 := Lib.hid (show k ≤ 1000 by have := HL9.out; omega)
    have hkw : wrap64 ((k : Int) + 1) = k + 1 := IntWalk.wrap64_in _ (by have := HK9.out; omega)
    have HK8 := Lib.hid (show ((k + 1 : Nat) : Int) = (k : Int) + 1 by omega)
    by_cases hlt : k + 1 < Rs.length
    · have HK1 := Lib.hid (show k + 1 + 1 ≤ Rs.length from hlt)
      have t1 : decide ((k : Int) + 1 < Rs.length) = true := by simp; omega
      have t2 : ((k : Int) + 1 < Rs.length) = True := by simp; omega
      have t3 : (k : Int) < Rs.length := by omega
      have t4 : k < Rs.length := by omega
      have t5 : (0 : Int) ≤ k := by omega
      have HS1 := Lib.hid (show pthP (Rs.take (k + 1)) j = pthP (Rs.take k) j ++ [oth (Rs.getD k []) (idxP (Rs.take k) j)] by rw [take_snoc t4, pthP_snoc])
      have HS2 := Lib.hid (show idxP (Rs.take (k + 1)) j = idxP (Rs.take k) j / 2 by rw [take_snoc t4, idxP_snoc])
      have hix := HIX.out k t4
      have hjl := idxP_le (Rs.take k) j
      obtain ⟨a2, cap2, hva, -, hcs⟩ := HT.out.step HW.out
      obtain ⟨rfl, rfl⟩ : ua = a2 ∧ uc = cap2 := by simpa using hva
      obtain ⟨b, off, rfl, hcs2⟩ := hcs (by intro h; rw [h] at t4; simp at t4)
      obtain ⟨s, x0, hs⟩ := hcs2 k _ (rows_get t4)
      clear hcs hcs2 hva hk
      have HO := Lib.hid (show oth (Rs.getD k []) (idxP (Rs.take k) j) = oth (Rs.getD k []) (idxP (Rs.take k) j) from rfl)
      obtain ⟨x, hx⟩ : ∃ x, Rs.getD k [] = x := ⟨_, rfl⟩
      obtain ⟨q, hq⟩ : ∃ q, idxP (Rs.take k) j = q := ⟨_, rfl⟩
      rw [hx] at hs hix HS1
      rw [hq] at hix hjl HS1 HS2
      rw [hq]
      clear hx hq HO
      obtain ⟨sa, sc, rfl, -, hcs⟩ := hs
      obtain ⟨b2, off2, rfl, hcs2⟩ := hcs (by intro h; rw [h] at hix; simp at hix)
      have hq9 : q ≤ 1000 := by have := HJ.out; have := H9.out; omega
      obtain ⟨m, hm⟩ : ∃ m, q / 2 = m := ⟨_, rfl⟩
      have HJ2 := Lib.hid (show ((q / 2 : Nat) : Int) = (m : Int) by omega)
      have q1 : (q : Int).tdiv 2 = (m : Int) := by rw [Int.tdiv_eq_ediv_of_nonneg (by omega)]; omega
      have q2 : wrap64 (m : Int) = m := IntWalk.wrap64_in _ (by omega)
      have q3 : wrap64 ((q : Int) + 1) = q + 1 := IntWalk.wrap64_in _ (by omega)
      have c3w := HW.out.size
      clear hcs hm
      by_cases ho : q % 2 = 1
      · have r1 : (q : Int).tmod 2 = 1 := by rw [Int.tmod_eq_emod_of_nonneg (by omega)]; omega
        have r2 : (q : Int) % 2 = 1 := by omega
        have r3 : wrap64 ((q : Int) - 1) = q - 1 := IntWalk.wrap64_in _ (by omega)
        have r4 : ((q : Int) - 1).toNat = q - 1 := by omega
        have r5 : 0 ≤ (q : Int) - 1 := by omega
        have r6 : (q : Int) - 1 < x.length := by omega
        have y0 := hcs2 (q - 1) _ (getD_of (by omega))
        have HO := Lib.hid (show oth x q = x.getD (q - 1) 0 by unfold oth sib; rw [if_pos ho, if_pos (by omega)])
        generalize x.getD (q - 1) 0 = y at *
        have HB5 := Lib.hid (al wr (.cells #[.int .i64 y] 3))
        have c3 := Lib.hid (Nat.le_trans c3w HB5.out.size)
        clear hcs2 c3w hix hjl hlt
        replace ho := Lib.hid ho
        go_wp2_with (at_builtin; refine wpList_append_own _ rfl _ _ 22 rfl W1.heap.size 3 i0 (.int .i64 0) 1 8 Try.underlying22 HI.out.1 HI.out.2.1 HI.out.2.2.1 HI.out.2.2.2 rfl (by decide) _ _ _ rfl (row_step HN.out HB5.out) ⟨wr.heap.size, 0, none⟩ 1 1 [.int .i64 y] rfl rfl (one_at (Cs.new _ _ _ _ rfl)) (by simp [Value.oneCell']) (by have := HK9.out; unfold maxLen; omega) (by have := HK9.out; omega) c3.out ?_; intro v' w5 hown' hgrow hnil; clear hnil; have HR1 := Lib.hid hown'; have HB1 := Lib.hid ((HW.out.trans (HB5.out.mono HW.out.size)).grown hgrow c3.out (fun k e => row_own (row_step HN.out HB5.out) e)); clear hown' hgrow)
        go_roundw
        case rel => exact ⟨k + 1, HK1.out, by rw [hkw, HK8.out], by rw [q2, HS2.out, HJ2.out], Lib.hid (by rw [HS1.out, HO.out, List.map_append]; exact HR1.out), HB1⟩
        case measure => have := HK1.out; have h3 := HK8.out; rw [hkw]; simp [intOf]; omega
      · have r1 : (q : Int).tmod 2 = 0 := by rw [Int.tmod_eq_emod_of_nonneg (by omega)]; omega
        have r2 : (q : Int) % 2 = 0 := by omega
        by_cases hl : q + 1 < x.length
        · have r4 : ((q : Int) + 1).toNat = q + 1 := by omega
          have r5 : 0 ≤ (q : Int) + 1 := by omega
          have r6 : (q : Int) + 1 < x.length := by omega
          have r7 : decide ((q : Int) + 1 < x.length) = true := by simp; omega
          have y0 := hcs2 (q + 1) _ (getD_of hl)
          have HO := Lib.hid (show oth x q = x.getD (q + 1) 0 by unfold oth sib; rw [if_neg ho, if_pos hl])
          generalize x.getD (q + 1) 0 = y at *
          have HB5 := Lib.hid (al wr (.cells #[.int .i64 y] 3))
          have c3 := Lib.hid (Nat.le_trans c3w HB5.out.size)
          clear hcs2 c3w hix hjl hlt
          replace ho := Lib.hid ho
          replace hl := Lib.hid hl
          go_wp2_with (at_builtin; refine wpList_append_own _ rfl _ _ 22 rfl W1.heap.size 3 i0 (.int .i64 0) 1 8 Try.underlying22 HI.out.1 HI.out.2.1 HI.out.2.2.1 HI.out.2.2.2 rfl (by decide) _ _ _ rfl (row_step HN.out HB5.out) ⟨wr.heap.size, 0, none⟩ 1 1 [.int .i64 y] rfl rfl (one_at (Cs.new _ _ _ _ rfl)) (by simp [Value.oneCell']) (by have := HK9.out; unfold maxLen; omega) (by have := HK9.out; omega) c3.out ?_; intro v' w5 hown' hgrow hnil; clear hnil; have HR1 := Lib.hid hown'; have HB1 := Lib.hid ((HW.out.trans (HB5.out.mono HW.out.size)).grown hgrow c3.out (fun k e => row_own (row_step HN.out HB5.out) e)); clear hown' hgrow)
          go_roundw
          case rel => exact ⟨k + 1, HK1.out, by rw [hkw, HK8.out], by rw [q2, HS2.out, HJ2.out], Lib.hid (by rw [HS1.out, HO.out, List.map_append]; exact HR1.out), HB1⟩
          case measure => have := HK1.out; have h3 := HK8.out; rw [hkw]; simp [intOf]; omega
        · have r6 : ((q : Int) + 1 < x.length) = False := by simp; omega
          have r7 : decide ((q : Int) + 1 < x.length) = false := by simp; omega
          have HO := Lib.hid (show oth x q = -1 by unfold oth sib; rw [if_neg ho, if_neg hl])
          have HB5 := Lib.hid (al wr (.cells #[.int .i64 (-1)] 3))
          have c3 := Lib.hid (Nat.le_trans c3w HB5.out.size)
          clear hcs2 c3w hix hjl hlt
          replace ho := Lib.hid ho
          replace hl := Lib.hid hl
          go_wp2_with (at_builtin; refine wpList_append_own _ rfl _ _ 22 rfl W1.heap.size 3 i0 (.int .i64 0) 1 8 Try.underlying22 HI.out.1 HI.out.2.1 HI.out.2.2.1 HI.out.2.2.2 rfl (by decide) _ _ _ rfl (row_step HN.out HB5.out) ⟨wr.heap.size, 0, none⟩ 1 1 [.int .i64 (-1)] rfl rfl (one_at (Cs.new _ _ _ _ rfl)) (by simp [Value.oneCell']) (by have := HK9.out; unfold maxLen; omega) (by have := HK9.out; omega) c3.out ?_; intro v' w5 hown' hgrow hnil; clear hnil; have HR1 := Lib.hid hown'; have HB1 := Lib.hid ((HW.out.trans (HB5.out.mono HW.out.size)).grown hgrow c3.out (fun k e => row_own (row_step HN.out HB5.out) e)); clear hown' hgrow)
          go_roundw
          case rel => exact ⟨k + 1, HK1.out, by rw [hkw, HK8.out], by rw [q2, HS2.out, HJ2.out], Lib.hid (by rw [HS1.out, HO.out, List.map_append]; exact HR1.out), HB1⟩
          case measure => have := HK1.out; have h3 := HK8.out; rw [hkw]; simp [intOf]; omega
    · have hke : k = Rs.length - 1 := by omega
      have t1 : decide ((k : Int) + 1 < Rs.length) = false := by simp; omega
      have t2 : ((k : Int) + 1 < Rs.length) = False := by simp; omega
      have HF := Lib.hid (show wr.ownsRow w.heap.size 3 1 (.slice na k nc) (pthL Rs j).length ((pthL Rs j).map (Value.int .i64)) ∧ Below w.heap.size w wr from ⟨by
        have h := HN.out
        rw [HP.out, ← hke]
        rw [pthP_len, List.length_take, Nat.min_eq_left (by omega)]
        exact row_base h HB.out.size, HB.out.trans (HW.out.mono HB.out.size)⟩)
      clear hke hk hlt HN HW
      go_wp2
      go_ret
      exact ⟨_, rfl, by rw [HRS.out]; exact HF.out.1, HF.out.2⟩
open Go.RowKit

theorem ListsR.base {n0 n1 : Nat} {Ls : List (List Int)} {lv : Value} {W : World} (h : ListsR n0 Ls lv W) (hn : n1 ≤ n0) : ListsR n1 Ls lv W := by
  obtain ⟨xs, h1, h2⟩ := h
  refine ⟨xs, row_base h1 hn, fun i x hi => ?_⟩
  obtain ⟨u, e1, e2, e3⟩ := h2 i x hi
  exact ⟨u, e1, e2, row_base e3 hn⟩
/-- An append whose equation is known, at a step of a region that draws its order. -/
theorem step_app {ops : Array Oper} {o : Oper} {a : Act} {w w' : World} {K : Act → World → Prop} {Q : Exit → Act → World → Prop} {E : Prop} (hgd : o.guard = none) (s x : Operand) (t : TypeId)
    (ho : o.op = .call { callee := .builtin .append, args := #[s, x], argTypes := #[t, t] }) (v sl v' : Value) (hs : a.eval s = v) (hx : a.eval x = sl)
    (hr : (Builtin.append_ #[t, t] o.type #[v, sl]).run Try.prog w = .ok v' w') (h : K (a.put o.dst v') w') :
    if Region.wanted o (yielded ops a.tmps) = true then Oper.wp Try.prog o a w K Q else E := by
  have hw : Region.wanted o (yielded ops a.tmps) = true := by simp [Region.wanted, hgd]
  rw [if_pos hw]
  unfold Oper.wp execOp
  simp only [ho, resolve, invoke, builtin, Sem.run_bind, Sem.run_pure, Result.andThen_ok, List.map_toArray, List.map_cons, List.map_nil, hs, hx, hr]
  exact h
end Go.Proofs.Yteodafhgfcbdpaa
