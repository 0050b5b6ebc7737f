import Derived.Test.YteodafhgfcbdpaaUn
namespace Go.Proofs.Yteodafhgfcbdpaa
open Go.RowKit

def upE (x : List Int) (k : Nat) : Int := if 2 * k + 1 < x.length then nd (x.getD (2 * k) 0) (x.getD (2 * k + 1) 0) else x.getD (2 * k) 0
theorem upR_take {x : List Int} {k : Nat} (h : 2 * k < x.length) : (upR x).take (k + 1) = (upR x).take k ++ [upE x k] := by
  rw [List.take_succ_eq_append_getElem (by rw [upR_len]; omega)]
  have h1 := upR_get k x h
  congr 2
  rw [show (upR x)[k]'(by rw [upR_len]; omega) = (upR x).getD k 0 by simp [upR_len, show k < (x.length + 1) / 2 by omega], h1]
  rfl
theorem row_one {W : World} {n0 : Nat} {u : Value} (hn : n0 ≤ W.heap.size) : (W.alloc (.cells #[u] 22)).ownsRow n0 22 1 (.slice (some ⟨W.heap.size, 0, none⟩) 1 1) 1 [u] :=
  ⟨rfl, .inr ⟨W.heap.size, 1, _, rfl, hn, heap_alloc_new _ _, by omega, by unfold maxLen; omega, rfl, rfl⟩⟩
theorem ListsR.one {W : World} {n0 : Nat} {u : Value} {x : List Int} (hn : n0 ≤ W.heap.size) (hu : W.ownsRow n0 3 1 u x.length (x.map (Value.int .i64))) : ListsR n0 [x] (.slice (some ⟨W.heap.size, 0, none⟩) 1 1) (W.alloc (.cells #[u] 22)) := by
  refine ⟨[u], row_one hn, fun i y hi => ?_⟩
  rcases i with _ | i
  · cases hi
    obtain ⟨a, c, rfl⟩ := row_slice hu
    exact ⟨_, rfl, rfl, row_step hu (al _ _)⟩
  · simp at hi
set_option maxRecDepth 100000 in
set_option maxHeartbeats 8000000 in
theorem rtree_any (v : Value) (L : List (List Int)) (w : World) (h : RowsAt w v L) (h9 : L.length ≤ 1000) (h1 : 0 < L.length) :
    Calls Try.prog 64 #[v] w fun e w' => (∃ u, e = .returned u ∧ ListsR w.heap.size (rowsT (lvs L)) u w') ∧ Below w.heap.size w w' := by
  have HR0 := Lib.hid h
  obtain ⟨a, cap, rfl, -, hx⟩ := h
  have HX := Lib.hid hx
  have H9 := Lib.hid h9
  have H1 := Lib.hid h1
  obtain ⟨i0, hi, hz0, hz1, hz2⟩ := info_parts infoInt
  have HI := Lib.hid (show _ ∧ _ ∧ _ ∧ _ from ⟨hi, hz0, hz1, hz2⟩)
  obtain ⟨j0, ki, kz0, kz1, kz2⟩ := info_parts infoSl
  have KI := Lib.hid (show _ ∧ _ ∧ _ ∧ _ from ⟨ki, kz0, kz1, kz2⟩)
  have z1 : ((L.length : Int) == 0) = false := by simp; intro e; rw [e] at h1; simp at h1
  have z2 : ¬ L = [] := by intro e; rw [e] at h1; simp at h1
  have z3 : ((L.length : Int) = 0) = False := by simp; exact z2
  have g1 : decide ((L.length : Int) > 1000) = false := by simp; omega
  have g2 : decide ((1000 : Int) < L.length) = false := by simp; omega
  clear hx h9 h1 hi hz0 hz1 hz2 ki kz0 kz1 kz2
  go_enter Try.func64, Try.ntmps64
  go_wp2_with fail
  clear z1 z2 z3 g1 g2
  go_loopw [3, 4] (fun rv iv wr => ∃ k : Nat, k ≤ L.length ∧ iv = .int .i64 k ∧ Hid (wr.ownsRow w.heap.size 3 1 rv k (((lvs L).take k).map (Value.int .i64))) ∧ Hid (Below w.heap.size w wr)) (fun _ iv _ => L.length - (intOf iv).toNat)
  case atStart => exact ⟨0, by omega, rfl, Lib.hid (by rw [List.take_zero]; exact World.ownsRow_nil _ _ _ _), Lib.hid (Below.refl _ _)⟩
  case round =>
    obtain ⟨k, hk, rfl, HR, HW⟩ := hrel
    have hk9 : k ≤ 1000 := Nat.le_trans hk H9.out
    obtain ⟨na, nc, rfl⟩ := row_slice HR.out
    by_cases hlt : k < L.length
    · obtain ⟨b, off, rfl, hcs2⟩ := HX.out (by intro h; rw [h] at hlt; simp at hlt)
      obtain ⟨x, hx⟩ : ∃ x, L.getD k [] = x := ⟨_, rfl⟩
      obtain ⟨u, x0, hu⟩ := hcs2 k _ (rows_get hlt)
      rw [hx] at hu
      have ht := lvs_take hlt
      rw [hx] at ht
      have HT := Lib.hid ht
      have x0 := keep1 HW.out x0
      have HU := Lib.hid (hu.step HW.out)
      obtain ⟨ua, uc, rfl, -, -⟩ := hu
      clear hcs2 hx ht
      have h9 := H9.out
      go_wp2_with fail
      refine (rsum_any _ x _ HU.out).mono ?_
      rintro e w3 ⟨rfl, n3, hw3⟩
      have HB3 := Lib.hid (show Below wr.heap.size wr w3 from hw3 ▸ below_drewN' _ _ _)
      clear hw3
      obtain ⟨d1, hd1⟩ : ∃ z, Dg x = z := ⟨_, rfl⟩
      rw [hd1]
      have HI3 := Lib.hid (ints_lit w3 [0, d1] #[.int .i64 0, .int .i64 d1] 3 rfl (by simp) 2 rfl w3.heap.size rfl)
      go_wp2_with fail
      refine (rsum_any _ [0, d1] _ HI3.out).mono ?_
      rintro e w4 ⟨rfl, n4, hw4⟩
      have HB4 := Lib.hid (show Below wr.heap.size wr w4 from (HB3.out.alloc HB3.out.size _).trans (hw4 ▸ below_drewN' _ _ _))
      clear hw4 HI3 HB3
      obtain ⟨d2, hd2⟩ : ∃ z, Dg [0, d1] = z := ⟨_, rfl⟩
      rw [hd2]
      have HD := Lib.hid (show lf x = d2 by unfold lf; rw [hd1, hd2])
      clear hd1 hd2
      have HB5 := Lib.hid (HB4.out.alloc HB4.out.size (.cells #[.int .i64 d2] 3))
      have c3 := Lib.hid (Nat.le_trans HW.out.size HB5.out.size)
      go_wp2_with (at_builtin; refine wpList_append_own _ rfl _ _ 22 rfl w.heap.size 3 i0 (.int .i64 0) 1 8 Try.underlying22 HI.out.1 HI.out.2.1 HI.out.2.2.1 HI.out.2.2.2 rfl (by decide) _ _ _ rfl (row_step HR.out HB5.out) ⟨w4.heap.size, 0, none⟩ 1 1 [.int .i64 d2] rfl rfl (one_at (Cs.new _ _ _ _ rfl)) (by simp [Value.oneCell']) (by unfold maxLen; omega) (by omega) c3.out ?_; intro v' w1 hown' hgrow hnil; clear hnil; have HR1 := Lib.hid hown'; have HB1 := Lib.hid ((HW.out.trans (HB5.out.mono HW.out.size)).grown hgrow c3.out (fun k e => row_own (row_step HR.out HB5.out) e)); clear hown' hgrow)
      go_roundw
      case rel => exact ⟨k + 1, hlt, by go_num, Lib.hid (by rw [HT.out, List.map_append, List.map_cons, List.map_nil, HD.out]; exact HR1.out), HB1⟩
      case measure => simp [intOf]; omega
    · obtain rfl : k = L.length := by omega
      have HRF := Lib.hid (show wr.ownsRow w.heap.size 3 1 (.slice na L.length nc) (lvs L).length ((lvs L).map (Value.int .i64)) from by
        have h := HR.out
        rw [List.take_of_length_le (by rw [lvs_len]; omega)] at h
        rw [lvs_len]; exact h)
      have HLF := Lib.hid (ListsR.one HW.out.size HRF.out)
      have HBF := Lib.hid (HW.out.alloc HW.out.size (.cells #[.slice na L.length nc] 22))
      have HRG := Lib.hid (row_step HRF.out (al wr (.cells #[.slice na L.length nc] 22)))
      clear HR HW hk HRF hk9
      go_wp2_with fail
      obtain ⟨wa, hwa⟩ : ∃ wa, wr.alloc (.cells #[.slice na L.length nc] 22) = wa := ⟨_, rfl⟩
      rw [hwa] at HLF HBF HRG ⊢
      clear hwa
      go_loopw [3, 5] (fun rv ov wr => ∃ pre x, rowsT (lvs L) = pre ++ rowsT x ∧ 0 < x.length ∧ x.length ≤ 1000 ∧ Hid (wr.ownsRow w.heap.size 3 1 rv x.length (x.map (Value.int .i64))) ∧ Hid (ListsR w.heap.size (pre ++ [x]) ov wr) ∧ pre.length + x.length ≤ 1000 ∧ Hid (Below w.heap.size w wr)) (fun rv _ _ => lenOf rv)
      case atStart => exact ⟨[], lvs L, rfl, by rw [lvs_len]; exact H1.out, by rw [lvs_len]; exact H9.out, HRG, HLF, by rw [lvs_len]; exact Nat.le_trans (Nat.le_of_eq (Nat.zero_add _)) H9.out, HBF⟩
      case round =>
        clear HLF HBF HRG hlt
        obtain ⟨pre, x, hp, hx0, hx9, HR, HO, hpl, HW⟩ := hrel
        obtain ⟨W2, hW2⟩ : ∃ z, z = wr := ⟨_, rfl⟩
        subst hW2
        obtain ⟨ra, rc, rfl⟩ := row_slice HR.out
        obtain ⟨oa, oc, rfl⟩ := HO.out.slice
        obtain ⟨ln, hln⟩ : ∃ n, (pre ++ [x]).length = n := ⟨_, rfl⟩
        rw [hln] at HO ⊢
        have HLN := Lib.hid (show (pre ++ [x]).length = ln ∧ ln ≤ 1001 from ⟨hln, by rw [← hln]; simp; omega⟩)
        clear hln
        have HP := Lib.hid hp
        have HX9 := Lib.hid (show x.length ≤ 1000 ∧ pre.length + x.length ≤ 1000 from ⟨hx9, hpl⟩)
        have HXI := Lib.hid (ints_of_row HR.out)
        clear hp hpl hx9
        by_cases hlt : 1 < x.length
        · have HM := Lib.hid (rowsT_more hlt)
          have g1 : decide ((x.length : Int) > 1) = true := by simp; omega
          have g2 : decide ((1 : Int) < x.length) = true := by simp; omega
          clear hx0
          replace hlt := Lib.hid hlt
          go_wp2_with fail
          go_loopw [6, 7] (fun nv iv wr => ∃ k : Nat, k ≤ (x.length + 1) / 2 ∧ iv = .int .i64 ((2 * k : Nat) : Int) ∧ Hid (wr.ownsRow W2.heap.size 3 1 nv k (((upR x).take k).map (Value.int .i64))) ∧ Hid (Below W2.heap.size W2 wr)) (fun _ iv _ => x.length + 1 - (intOf iv).toNat)
          case atStart => exact ⟨0, by omega, rfl, Lib.hid (by rw [List.take_zero]; exact World.ownsRow_nil _ _ _ _), Lib.hid (Below.refl _ _)⟩
          case round =>
            clear g1 g2
            obtain ⟨k, hk, rfl, HN, HWq⟩ := hrel
            obtain ⟨na, nc, rfl⟩ := row_slice HN.out
            have h9 := HX9.out.1
            by_cases hlk : 2 * k < x.length
            · have HT := Lib.hid (upR_take hlk)
              obtain ⟨a2, cap2, hva, -, hcs⟩ := HXI.out.step HWq.out
              obtain ⟨rfl, rfl⟩ : ra = a2 ∧ rc = cap2 := by simpa using hva
              obtain ⟨b, off, rfl, hcs2⟩ := hcs (by intro h; rw [h] at hlk; simp at hlk)
              have x0 := hcs2 (2 * k) _ (getD_of hlk)
              have t1 : ((2 * k : Nat) : Int) < x.length := by omega
              have t2 : decide (((2 * k : Nat) : Int) < x.length) = true := by simp; omega
              by_cases hl2 : 2 * k + 1 < x.length
              · have HE := Lib.hid (show upE x k = nd (x.getD (2 * k) 0) (x.getD (2 * k + 1) 0) by unfold upE; rw [if_pos hl2])
                have y0 := hcs2 (2 * k + 1) _ (getD_of hl2)
                clear hcs hcs2 hva
                generalize x.getD (2 * k) 0 = p at *
                generalize x.getD (2 * k + 1) 0 = q at *
                obtain ⟨i2, hi2⟩ : ∃ i, 2 * k = i := ⟨_, rfl⟩
                have w2 : wrap64 ((i2 : Int) + 2) = i2 + 2 := IntWalk.wrap64_in _ (by omega)
                have w1 : wrap64 ((i2 : Int) + 1) = i2 + 1 := IntWalk.wrap64_in _ (by omega)
                have HK2 := Lib.hid (show ((2 * (k + 1) : Nat) : Int) = (i2 : Int) + 2 ∧ k + 1 ≤ (x.length + 1) / 2 ∧ k ≤ 1000 ∧ i2 < x.length from ⟨by omega, by omega, by omega, by omega⟩)
                rw [hi2] at x0 y0 t1 t2 hl2 hlk ⊢
                have t3 : decide (((i2 : Nat) : Int) + 1 < x.length) = true := by simp; omega
                have t4 : ((i2 : Nat) : Int) + 1 < x.length := by omega
                have hi29 : i2 ≤ 1000 := by omega
                go_wp2_with fail
                have q2 : IntKind.i64.wrap ((i2 : Int) + 1) = i2 + 1 := IntWalk.i64_in _ (by omega)
                have t5 : 0 ≤ (i2 : Int) := by omega
                have t6 : 0 ≤ (i2 : Int) + 1 := by omega
                obtain ⟨nx, hnx⟩ : ∃ z, nd p q = z := ⟨_, rfl⟩
                rw [hnx] at HE
                have HI3 := Lib.hid (show ∀ w', w' = (wr.alloc (.cells #[.int .i64 1, .int .i64 p, .int .i64 q] 3)).drew → Calls Try.prog 63 #[.slice (some ⟨wr.heap.size, 0, none⟩) 3 3] w' fun e w'' => e = .returned (.int .i64 nx) ∧ Below wr.heap.size wr w'' from fun w' h => by
                  subst h
                  refine (rsum_any _ [1, p, q] _ ((ints_lit wr [1, p, q] _ 3 rfl (by simp) 3 rfl _ rfl).step (below_drew _ _))).mono ?_
                  rintro e w9 ⟨rfl, n9, rfl⟩
                  exact ⟨by rw [← hnx]; rfl, ((al wr _).trans (below_drew _ _)).trans (below_drewN' _ _ _)⟩)
                clear hnx
                have k1 : k + 1 ≤ maxLen := by unfold maxLen; omega
                have k2 : (k + 1) * 8 ≤ 140737488355328 := by omega
                clear hi2 hk hl2
                replace hlk := Lib.hid hlk
                go_region_law (first | (go_simp; go_at_call 63; refine (HI3.out _ rfl).mono ?_; rintro e w3 ⟨rfl, hb3⟩; have HB5 := Lib.hid (hb3.alloc hb3.size (.cells #[.int .i64 nx] 3)); have HC5 := Lib.hid (Cs.new w3 w3.heap.size #[.int .i64 nx] 3 rfl); have c3 := Lib.hid (Nat.le_trans HWq.out.size HB5.out.size); clear hb3) | (refine step_append_lies _ rfl _ _ 22 rfl W2.heap.size 3 i0 (.int .i64 0) 1 8 Try.underlying22 HI.out.1 HI.out.2.1 HI.out.2.2.1 HI.out.2.2.2 rfl (by decide) _ _ _ rfl (row_step HN.out HB5.out) ⟨w3.heap.size, 0, none⟩ 1 1 [.int .i64 nx] rfl rfl (one_at HC5.out) (by simp [Value.oneCell']) (by decide) k1 k2 c3.out _ rfl ?_; intro g' cap' w5 hown' hgrow hz9 hz8; clear hz9 hz8; have HR1 := Lib.hid hown'; have HB1 := Lib.hid ((HWq.out.trans (HB5.out.mono HWq.out.size)).grown hgrow c3.out (fun k e => row_own (row_step HN.out HB5.out) e)); clear hown' hgrow))
                all_goals clear q2 t5 t6 t3 t4 x0 y0 k1 k2
                all_goals go_wp2
                all_goals go_roundw
                all_goals first | exact ⟨k + 1, HK2.out.2.1, by rw [HK2.out.1], Lib.hid (by rw [HT.out, List.map_append, List.map_cons, List.map_nil, HE.out]; exact HR1.out), HB1⟩ | (have h3 := HK2.out.2.2.2; have h4 := HK2.out.1; simp [intOf]; omega)
              · have HE := Lib.hid (show upE x k = x.getD (2 * k) 0 by unfold upE; rw [if_neg hl2])
                clear hcs hcs2 hva
                generalize x.getD (2 * k) 0 = p at *
                obtain ⟨i2, hi2⟩ : ∃ i, 2 * k = i := ⟨_, rfl⟩
                have w2 : wrap64 ((i2 : Int) + 2) = i2 + 2 := IntWalk.wrap64_in _ (by omega)
                have w1 : wrap64 ((i2 : Int) + 1) = i2 + 1 := IntWalk.wrap64_in _ (by omega)
                have HK2 := Lib.hid (show ((2 * (k + 1) : Nat) : Int) = (i2 : Int) + 2 ∧ k + 1 ≤ (x.length + 1) / 2 ∧ k ≤ 1000 ∧ i2 < x.length from ⟨by omega, by omega, by omega, by omega⟩)
                rw [hi2] at x0 t1 t2 hl2 hlk ⊢
                have t3 : decide (((i2 : Nat) : Int) + 1 < x.length) = false := by simp; omega
                have t4 : (((i2 : Nat) : Int) + 1 < x.length) = False := by simp; omega
                have hi29 : i2 ≤ 1000 := by omega
                have HB5 := Lib.hid (al wr (.cells #[.int .i64 p] 3))
                have c3 := Lib.hid (Nat.le_trans HWq.out.size HB5.out.size)
                clear hi2 hk
                replace hlk := Lib.hid hlk
                go_wp2_with (at_builtin; refine wpList_append_own _ rfl _ _ 22 rfl W2.heap.size 3 i0 (.int .i64 0) 1 8 Try.underlying22 HI.out.1 HI.out.2.1 HI.out.2.2.1 HI.out.2.2.2 rfl (by decide) _ _ _ rfl (row_step HN.out HB5.out) ⟨wr.heap.size, 0, none⟩ 1 1 [.int .i64 p] rfl rfl (one_at (Cs.new _ _ _ _ rfl)) (by simp [Value.oneCell']) (by have := HK2.out.2.2.1; unfold maxLen; omega) (by have := HK2.out.2.2.1; omega) c3.out ?_; intro v' w1 hown' hgrow hnil; clear hnil; have HR1 := Lib.hid hown'; have HB1 := Lib.hid ((HWq.out.trans (HB5.out.mono HWq.out.size)).grown hgrow c3.out (fun k e => row_own (row_step HN.out HB5.out) e)); clear hown' hgrow)
                all_goals go_roundw
                all_goals first | exact ⟨k + 1, HK2.out.2.1, by rw [HK2.out.1], Lib.hid (by rw [HT.out, List.map_append, List.map_cons, List.map_nil, HE.out]; exact HR1.out), HB1⟩ | (have h3 := HK2.out.2.2.2; have h4 := HK2.out.1; simp [intOf]; omega)
            · obtain rfl : k = (x.length + 1) / 2 := by omega
              have HNF := Lib.hid (show wr.ownsRow W2.heap.size 3 1 (.slice na ((x.length + 1) / 2) nc) (upR x).length ((upR x).map (Value.int .i64)) from by
                have h := HN.out
                rw [List.take_of_length_le (by rw [upR_len]; exact Nat.le_refl _)] at h
                rw [upR_len]; exact h)
              obtain ⟨m, hm⟩ : ∃ m, (x.length + 1) / 2 = m := ⟨_, rfl⟩
              rw [hm] at HNF HN hlk hk ⊢
              have HMM := Lib.hid (show (upR x).length = m ∧ m + 1 ≤ x.length ∧ 0 < m from ⟨by rw [upR_len]; exact hm, by have := hlt.out; omega, by have := hlt.out; omega⟩)
              have t1 : (((2 * m : Nat) : Int) < x.length) = False := by simp; omega
              have t2 : decide (((2 * m : Nat) : Int) < x.length) = false := by simp; omega
              have t3 : 2 * m < x.length → False := fun h => hlk h
              obtain ⟨xs, hown, hxs⟩ := HO.out
              rw [HLN.out.1] at hown
              have HOW := Lib.hid (row_step hown HWq.out)
              have HXS := Lib.hid (show ∀ (i : Nat) (y : List Int), (pre ++ [x])[i]? = some y → ∃ u, xs[i]? = some u ∧ u.oneCell' = true ∧ wr.ownsRow w.heap.size 3 1 u y.length (y.map (Value.int .i64)) from fun i y h => by
                obtain ⟨u, e1, e2, e3⟩ := hxs i y h
                exact ⟨u, e1, e2, row_step e3 HWq.out⟩)
              have HXL := Lib.hid (show xs.length = ln by have := hown.1; omega)
              have HBW := Lib.hid (show Below w.heap.size w wr from HW.out.trans (HWq.out.mono HW.out.size))
              have HNB := Lib.hid (row_base HNF.out HW.out.size)
              have HB5 := Lib.hid (al wr (.cells #[.slice na m nc] 22))
              have c3 := Lib.hid (Nat.le_trans HBW.out.size HB5.out.size)
              clear hown hxs hm hk HN HNF HWq HO HW HXI HR
              go_wp2_with (at_builtin; refine wpList_append_own _ rfl _ _ 25 rfl w.heap.size 22 j0 (.slice none 0 0) 1 24 Try.underlying25 KI.out.1 KI.out.2.1 KI.out.2.2.1 KI.out.2.2.2 rfl (by decide) _ _ _ rfl (row_step HOW.out HB5.out) ⟨wr.heap.size, 0, none⟩ 1 1 [.slice na m nc] rfl rfl (one_at (Cs.new _ _ _ _ rfl)) (by simp [Value.oneCell']) (by have := HLN.out.2; unfold maxLen; omega) (by have := HLN.out.2; omega) c3.out ?_; intro v' w1 hown' hgrow hnil; clear hnil; have HLX := Lib.hid (ListsR.snoc (W := wr.alloc (.cells #[.slice na m nc] 22)) (Ls := pre ++ [x]) (l := upR x) (u := .slice na m nc) (fun i y h => by obtain ⟨u, e1, e2, e3⟩ := HXS.out i y h; exact ⟨u, e1, e2, row_step e3 HB5.out⟩) (by rw [HLN.out.1]; exact HXL.out) (by rw [HLN.out.1]; exact row_step HOW.out HB5.out) (row_step HNB.out HB5.out) rfl hgrow (by rw [HLN.out.1]; exact hown')); have HRX := Lib.hid (row_grown (row_step HNB.out HB5.out) hgrow (fun k e => row_type (row_step HNB.out HB5.out) (row_step HOW.out HB5.out) (by decide) e)); have HBX := Lib.hid ((HBW.out.trans (HB5.out.mono HBW.out.size)).grown hgrow c3.out (fun k e => row_own (row_step HOW.out HB5.out) e)); clear hown' hgrow)
              go_roundw
              case rel => exact ⟨pre ++ [x], upR x, by rw [HP.out, HM.out, List.append_assoc]; rfl, by rw [HMM.out.1]; exact HMM.out.2.2, by rw [HMM.out.1]; have := HMM.out.2.1; have := HX9.out.1; omega, HRX, HLX, by rw [HMM.out.1, List.length_append]; have := HMM.out.2.1; have := HX9.out.2; simp; omega, HBX⟩
              case measure => have := HMM.out.2.1; simp [lenOf]; omega
        · have hx1 : x.length = 1 := by omega
          have HE := Lib.hid (rowsT_one hx1)
          have g1 : decide ((x.length : Int) > 1) = false := by simp; omega
          have g2 : decide ((1 : Int) < x.length) = false := by simp; omega
          clear hx1 hx0 hlt
          go_wp2
          go_ret
          exact ⟨⟨_, rfl, by rw [HP.out, HE.out]; exact HO.out⟩, HW.out⟩
open Go.RowKit

theorem rowsT_pos {row : List Int} (h : row ≠ []) : 0 < (rowsT row).length := by
  obtain ⟨x, hx, -⟩ := rowsT_last h
  exact List.length_pos_iff.2 (fun e => by rw [e] at hx; cases hx)
theorem last_get {Ls : List (List Int)} (h : 0 < Ls.length) : Ls.getD (Ls.length - 1) [] = Ls.getLastD [7] := by
  cases Ls with
  | nil => simp at h
  | cons x r => simp [List.getLastD, List.getLast_eq_getElem]
theorem rtT_get {row : List Int} (h : row ≠ []) : ((rowsT row).getD ((rowsT row).length - 1) []).getD 0 0 = rtT row := by
  rw [last_get (rowsT_pos h)]; rfl
theorem rowsT_get_ne {row : List Int} {k : Nat} (h : k < (rowsT row).length) : (rowsT row).getD k [] ≠ [] := by
  have e : (rowsT row) = (rowsT row).take k ++ (rowsT row).getD k [] :: (rowsT row).drop (k + 1) := by
    have e3 : (rowsT row).getD k [] = (rowsT row)[k] := by simp [h]
    rw [e3, ← List.drop_eq_getElem_cons h, List.take_append_drop]
  exact rowsT_ne e
set_option maxRecDepth 100000 in
set_option maxHeartbeats 4000000 in
theorem rroot_any (v : Value) (L : List (List Int)) (w : World) (h : RowsAt w v L) : Calls Try.prog 44 #[v] w fun e w' => e = .returned (.int .i64 (rtL L)) ∧ Below w.heap.size w w' := by
  unfold rtL
  by_cases h9 : 1000 < L.length
  · rw [if_pos h9]
    obtain ⟨a, cap, rfl, -, -⟩ := h
    have g1 : decide ((L.length : Int) > 1000) = true := by simp; omega
    have g2 : decide ((1000 : Int) < L.length) = true := by simp; omega
    go_enter Try.func44, Try.ntmps44
    go_wp2
    go_ret
    exact ⟨rfl, Below.refl _ _⟩
  · rw [if_neg h9]
    have HR := Lib.hid h
    obtain ⟨a, cap, rfl, -, -⟩ := h
    have g1 : decide ((L.length : Int) > 1000) = false := by simp; omega
    have g2 : decide ((1000 : Int) < L.length) = false := by simp; omega
    by_cases h0 : L = []
    · subst h0
      clear h9 HR
      have HE := Lib.hid (show rtT (lvs []) = 7 from rfl)
      go_enter Try.func44, Try.ntmps44
      go_wp2
      go_ret
      exact ⟨by rw [HE.out]; rfl, Below.refl _ _⟩
    · have z1 : ((L.length : Int) == 0) = false := by simp; exact h0
      have z3 : ((L.length : Int) = 0) = False := by simp; exact h0
      have hn : lvs L ≠ [] := fun e => h0 (by have := congrArg List.length e; rw [lvs_len] at this; exact List.length_eq_zero_iff.1 this)
      have HN := Lib.hid hn
      have H9 := Lib.hid (show L.length ≤ 1000 by omega)
      have H0 := Lib.hid (show 0 < L.length from List.length_pos_iff.2 h0)
      clear hn h9
      go_enter Try.func44, Try.ntmps44
      go_wp2_with fail
      refine (rtree_any _ L _ HR.out H9.out H0.out).mono ?_
      rintro e w1 ⟨⟨u, rfl, hu⟩, hb⟩
      have HB := Lib.hid hb
      have hlen := Lib.hid (show (rowsT (lvs L)).length ≤ 1000 from Nat.le_trans (rowsF_len (lvs L).length (lvs L)) (by rw [lvs_len]; exact H9.out))
      have hrows := hu.rows (by have := hlen.out; omega)
      obtain ⟨ua, uc, rfl⟩ := hu.slice
      have HP := Lib.hid (rowsT_pos HN.out)
      have HG := Lib.hid (rtT_get HN.out)
      have HNE := Lib.hid (rowsT_get_ne (row := lvs L) (k := (rowsT (lvs L)).length - 1) (by have := HP.out; omega))
      obtain ⟨a2, cap2, hva, -, hcs⟩ := hrows
      obtain ⟨rfl, rfl⟩ : ua = a2 ∧ uc = cap2 := by simpa using hva
      obtain ⟨b, off, rfl, hcs2⟩ := hcs (by intro h; have := HP.out; rw [h] at this; simp at this)
      obtain ⟨s, x0, hs⟩ := hcs2 ((rowsT (lvs L)).length - 1) _ (rows_get (by have := HP.out; omega))
      clear hu hb hcs hcs2 hva
      generalize (rowsT (lvs L)).getD ((rowsT (lvs L)).length - 1) [] = x at *
      generalize (rowsT (lvs L)).length = n at *
      obtain ⟨sa, sc, rfl, -, hcs⟩ := hs
      obtain ⟨b2, off2, rfl, hcs2⟩ := hcs HNE.out
      have hx0 : 0 < x.length := List.length_pos_iff.2 HNE.out
      have y0 := hcs2 0 _ (getD_of hx0)
      have hx1 : ¬ x = [] := HNE.out
      rw [Nat.add_zero] at y0
      obtain ⟨rt, hrt⟩ : ∃ r, x.getD 0 0 = r := ⟨_, rfl⟩
      rw [hrt] at y0 HG
      have hn0 := HP.out
      have hn9 := hlen.out
      have e1 : wrap64 ((n : Int) - 1) = n - 1 := IntWalk.wrap64_in _ (by omega)
      have e2 : ((n : Int) - 1).toNat = n - 1 := by omega
      have e3 : 0 ≤ (n : Int) - 1 := by omega
      have e4 : (n : Int) - 1 < n := by omega
      clear hcs hcs2 hrt HNE
      replace hn0 := Lib.hid hn0
      replace hn9 := Lib.hid hn9
      go_wp2
      go_ret
      exact ⟨by rw [← HG.out]; rfl, HB.out⟩
theorem rtagA_any (key : Int) (v : Value) (l : List Int) (w : World) (h : IntsAt w v l) (hl : l.length ≤ 5000) : Calls Try.prog 45 #[.int .i64 key, v] w fun e w' => e = .returned (.int .i64 (Dg (tgd key l))) ∧ Below w.heap.size w w' := by
  have H := Lib.hid h
  obtain ⟨a, cap, rfl, -, -⟩ := h
  go_enter Try.func45, Try.ntmps45
  go_wp2_with fail
  refine (rtagdA_any key _ l _ H.out hl).mono ?_
  rintro e w1 ⟨u, rfl, hu, hb⟩
  have HU := Lib.hid hu
  have HB := Lib.hid hb
  obtain ⟨ua, uc, rfl, -, -⟩ := hu
  clear hb
  go_wp2_with fail
  refine (rsum_any _ (tgd key l) _ HU.out).mono ?_
  rintro e w2 ⟨rfl, n, rfl⟩
  go_wp2
  go_ret
  exact ⟨rfl, HB.out.trans (below_drewN' _ _ _)⟩
set_option maxRecDepth 100000 in
set_option maxHeartbeats 4000000 in
theorem rrows_any (v u : Value) (L : List (List Int)) (w : World) (h : RowsAt w v L) (h' : RowsAt w u L) (h9 : L.length ≤ 1000) : Calls Try.prog 58 #[v, u] w fun e w' => e = .returned (.bool true) ∧ Below w.heap.size w w' := by
  obtain ⟨a, cap, rfl, -, hc⟩ := h
  obtain ⟨a', cap', rfl, -, hc'⟩ := h'
  have HC := Lib.hid hc
  have HC' := Lib.hid hc'
  replace h9 := Lib.hid h9
  clear hc hc'
  go_enter Try.func58, Try.ntmps58
  go_wp2_with fail
  go_loopw [5] (fun i wr => ∃ k : Nat, k ≤ L.length ∧ i = .int .i64 k ∧ Hid (Below w.heap.size w wr)) (fun i _ => L.length - (intOf i).toNat)
  case atStart => exact ⟨0, by omega, rfl, Lib.hid (Below.refl _ _)⟩
  case round =>
    obtain ⟨k, hk, rfl, HB⟩ := hrel
    have hl9 := h9.out
    by_cases hlt : k < L.length
    · obtain ⟨b, off, rfl, hcs⟩ := HC.out (by intro h; rw [h] at hlt; simp at hlt)
      obtain ⟨b', off', rfl, hcs'⟩ := HC'.out (by intro h; rw [h] at hlt; simp at hlt)
      obtain ⟨s, x0, hs⟩ := hcs k _ (rows_get hlt)
      obtain ⟨t, y0, ht⟩ := hcs' k _ (rows_get hlt)
      have x0 := keep1 HB.out x0
      have y0 := keep1 HB.out y0
      have HS := Lib.hid (hs.step HB.out)
      have HT := Lib.hid (ht.step HB.out)
      clear hcs hcs'
      generalize L.getD k [] = x at *
      obtain ⟨sa, sc, rfl, -, -⟩ := hs
      obtain ⟨ta, tc, rfl, -, -⟩ := ht
      go_wp2_with fail
      go_region_law (go_simp; go_at_call 21; refine (ints_any _ _ x x _ (HS.out.step (below_drew _ _)) (HT.out.step (below_drew _ _))).mono ?_; rintro e w3 ⟨rfl, n3, hw3⟩; rw [decide_eq_true (rfl : x = x)]; have HB3 := Lib.hid (show Below w.heap.size w w3 from (HB.out.trans (below_drew _ _)).trans (hw3 ▸ below_drewN' _ _ _)); clear hw3)
      all_goals go_wp2
      all_goals go_roundw
      all_goals first | exact ⟨k + 1, hlt, by go_num, HB3⟩ | (simp [intOf]; omega)
    · go_wp2
      go_ret
      exact ⟨rfl, HB.out⟩
theorem take_snoc {Ls : List (List Int)} {k : Nat} (h : k < Ls.length) : Ls.take (k + 1) = Ls.take k ++ [Ls.getD k []] := by
  rw [List.take_succ_eq_append_getElem h]; simp [h]
theorem row_lit {W : World} {n0 : Nat} (x : List Int) (cs : Array Value) (hc : cs.toList = x.map (Value.int .i64)) (hm : x.length ≤ 1000) (hn : n0 ≤ W.heap.size) (n : Nat) (hx : n = x.length) : (W.alloc (.cells cs 3)).ownsRow n0 3 1 (.slice (some ⟨W.heap.size, 0, none⟩) n n) x.length (x.map (Value.int .i64)) := by
  subst hx
  have hs : cs.size = x.length := by rw [← Array.length_toList, hc, List.length_map]
  exact ⟨by rw [List.length_map, Nat.mul_one], .inr ⟨W.heap.size, x.length, cs, rfl, hn, heap_alloc_new _ _, Nat.le_refl _, by unfold maxLen; omega, by rw [hs, Nat.mul_one], by rw [hc, Nat.mul_one, List.take_of_length_le (by rw [List.length_map]; exact Nat.le_refl _)]⟩⟩
theorem ListsR.two {W : World} {n0 : Nat} {u : Value} {x : List Int} {d : Int} (hn : n0 ≤ W.heap.size) (hu : W.ownsRow n0 3 1 u x.length (x.map (Value.int .i64))) :
    ListsR n0 [x, [0, d]] (.slice (some ⟨W.heap.size + 1, 0, none⟩) 2 2) ((W.alloc (.cells #[.int .i64 0, .int .i64 d] 3)).alloc (.cells #[u, .slice (some ⟨W.heap.size, 0, none⟩) 2 2] 22)) := by
  refine ⟨[u, .slice (some ⟨W.heap.size, 0, none⟩) 2 2], ?_, fun i y hi => ?_⟩
  · have hz : (W.alloc (.cells #[.int .i64 0, .int .i64 d] 3)).heap.size = W.heap.size + 1 := by simp
    have hh := heap_alloc_new (W.alloc (.cells #[.int .i64 0, .int .i64 d] 3)) (.cells #[u, .slice (some ⟨W.heap.size, 0, none⟩) 2 2] 22)
    rw [hz] at hh
    exact ⟨rfl, .inr ⟨W.heap.size + 1, 2, _, rfl, by omega, hh, Nat.le_refl _, by unfold maxLen; omega, rfl, rfl⟩⟩
  · rcases i with _ | _ | i
    · cases hi
      obtain ⟨a, c, rfl⟩ := row_slice hu
      exact ⟨_, rfl, rfl, row_step hu al2⟩
    · cases hi
      exact ⟨_, rfl, rfl, row_step (row_lit [0, d] #[.int .i64 0, .int .i64 d] rfl (by simp) hn 2 rfl) (al _ _)⟩
    · simp at hi
end Go.Proofs.Yteodafhgfcbdpaa
