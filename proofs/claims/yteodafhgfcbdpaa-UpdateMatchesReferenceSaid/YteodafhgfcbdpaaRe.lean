import Derived.Test.YteodafhgfcbdpaaTi
import Derived.Test.YteodafhgfcbdpaaUn
namespace Go.Proofs.Yteodafhgfcbdpaa
open Go.RowKit

set_option maxRecDepth 100000 in
set_option maxHeartbeats 8000000 in
theorem rclimb_no (v pv : Value) (l p : List Int) (i : Int) (w : World) (h : IntsAt w v l) (hp : IntsAt w pv p) (hb : clB i p = true) :
    Calls Try.prog 55 #[v, .int .i64 i, pv] w fun e w' => e = .returned (.tuple #[.int .i64 0, .slice none 0 0]) ∧ Below w.heap.size w w' := by
  have HP := Lib.hid hp
  obtain ⟨a, cap, rfl, -, -⟩ := h
  obtain ⟨pa, pc, rfl, hm, -⟩ := hp
  unfold maxLen at hm
  by_cases h1 : i < 0
  · go_enter Try.func55, Try.ntmps55
    go_wp2
    exact bodyPost_ret (v := .tuple #[.int .i64 0, .slice none 0 0]) (by simp [results, Try.results55, go_sem]) rfl ⟨rfl, Below.refl _ _⟩
  · by_cases h2 : 20 < p.length
    · have g1 : decide ((20 : Int) < p.length) = true := by simp; omega
      have g2 : decide ((p.length : Int) > 20) = true := by simp; omega
      go_enter Try.func55, Try.ntmps55
      go_wp2
      exact bodyPost_ret (v := .tuple #[.int .i64 0, .slice none 0 0]) (by simp [results, Try.results55, go_sem]) rfl ⟨rfl, Below.refl _ _⟩
    · have g1 : decide ((20 : Int) < p.length) = false := by simp; omega
      have g2 : decide ((p.length : Int) > 20) = false := by simp; omega
      have h3 : p.any noEl = true := by
        unfold clB at hb
        simpa [h1, h2] using hb
      have HA := Lib.hid h3
      have h20 : p.length ≤ 20 := by omega
      clear h3 hb hm h2
      go_enter Try.func55, Try.ntmps55
      go_wp2_with fail
      clear g1 g2
      go_loopw [8] (fun kv wr => ∃ k : Nat, k ≤ p.length ∧ kv = .int .i64 k ∧ Hid (∀ q, q < k → noEl (p.getD q 0) = false) ∧ Hid (Below w.heap.size w wr)) (fun kv _ => p.length - (intOf kv).toNat)
      case atStart => exact ⟨0, by omega, rfl, Lib.hid (fun q h => by omega), Lib.hid (Below.refl _ _)⟩
      case round =>
        obtain ⟨k, hk, rfl, HN, HB⟩ := hrel
        have hkw : wrap64 ((k : Int) + 1) = k + 1 := IntWalk.wrap64_in _ (by omega)
        have HK8 := Lib.hid (show ((k + 1 : Nat) : Int) = (k : Int) + 1 by omega)
        by_cases hlt : k < p.length
        · obtain ⟨a2, cap2, hva, -, hcs⟩ := HP.out.step HB.out
          obtain ⟨rfl, rfl⟩ : pa = a2 ∧ pc = cap2 := by simpa using hva
          obtain ⟨b, off, rfl, hcs2⟩ := hcs (by intro h; rw [h] at hlt; simp at hlt)
          have x0 := hcs2 k _ (getD_of hlt)
          clear hcs hcs2 hva
          have HIT := Lib.hid (any_hit (l := p) hlt)
          have HN2 := Lib.hid (show noEl (p.getD k 0) = false → ∀ q, q < k + 1 → noEl (p.getD q 0) = false from fun hx q h => by
            by_cases e : q = k
            · subst e; exact hx
            · exact HN.out q (by omega))
          have t1 : (k : Int) < p.length := by omega
          have t2 : (0 : Int) ≤ k := by omega
          generalize p.getD k 0 = x at *
          by_cases h1 : x < -1
          · have HX := Lib.hid (show noEl x = true by unfold noEl; simp [h1])
            have u1 : decide (x < -1) = true := by simpa using h1
            go_wp2_with fail
            go_quiet (fail)
            go_wp2
            exact bodyPost_ret (v := .tuple #[.int .i64 0, .slice none 0 0]) (by simp [results, Try.results55, go_sem]) rfl ⟨rfl, HB.out.trans (below_drewN' _ _ _)⟩
          · have u1 : decide (x < -1) = false := by simpa using h1
            by_cases h2 : 2147483647 ≤ x
            · have HX := Lib.hid (show noEl x = true by unfold noEl; simp [h1, h2])
              have u2 : decide (x ≥ 2147483647) = true := by simpa using h2
              go_wp2_with fail
              go_quiet (first | (go_at_call 71; exact Calls.quiet_of_same (modulus_q _ _)))
              go_wp2
              exact bodyPost_ret (v := .tuple #[.int .i64 0, .slice none 0 0]) (by simp [results, Try.results55, go_sem]) rfl ⟨rfl, HB.out.trans (below_drewN' _ _ _)⟩
            · have HX := Lib.hid (show noEl x = false by unfold noEl; simp [h1, h2])
              have u2 : decide (x ≥ 2147483647) = false := by simpa using h2
              have u3 : decide (2147483647 ≤ x) = false := by simpa using h2
              go_wp2_with fail
              go_quiet (first | (go_at_call 71; exact Calls.quiet_of_same (modulus_q _ _)))
              go_wp2
              go_roundw
              case rel => exact ⟨k + 1, hlt, by rw [HK8.out], Lib.hid (HN2.out HX.out), Lib.hid (HB.out.trans (below_drewN' _ _ _))⟩
              case measure => have h3 := HK8.out; simp [intOf]; omega
        · exfalso
          have := any_none (l := p) fun j hj => HN.out j (by omega)
          rw [HA.out] at this
          cases this
set_option maxRecDepth 100000 in
set_option maxHeartbeats 8000000 in
theorem rclimb_main (v pv : Value) (l p : List Int) (i : Int) (w : World) (h : IntsAt w v l) (hp : IntsAt w pv p) (h9 : l.length ≤ 1000) (hi : i ≤ 9223372036854775807) (hb : clB i p = false) :
    Calls Try.prog 55 #[v, .int .i64 i, pv] w fun e w' => (∃ u, e = .returned (.tuple #[.int .i64 (stK l i p p.length).h, u]) ∧ ListsR w.heap.size (stK l i p p.length).L u w') ∧ Below w.heap.size w w' := by
  have H := Lib.hid h
  have HP := Lib.hid hp
  obtain ⟨a, cap, rfl, -, -⟩ := h
  obtain ⟨pa, pc, rfl, -, -⟩ := hp
  obtain ⟨h1, h2, h3⟩ : ¬ i < 0 ∧ ¬ 20 < p.length ∧ p.any noEl = false := by
    unfold clB at hb
    rw [Bool.or_eq_false_iff, Bool.or_eq_false_iff, decide_eq_false_iff_not, decide_eq_false_iff_not] at hb
    exact ⟨hb.1, hb.2.1, hb.2.2⟩
  have HI := Lib.hid (stK_i l i p (by omega) hi)
  have h20 : p.length ≤ 20 := by omega
  have g0 : decide (i < 0) = false := by simpa using h1
  have g1 : decide ((20 : Int) < p.length) = false := by simp; omega
  have g2 : decide ((p.length : Int) > 20) = false := by simp; omega
  have HA := Lib.hid h3
  have HRNG := Lib.hid (show ∀ k, k < p.length → -1 ≤ p.getD k 0 from fun k hk => by
    have h4 := any_hit (l := p) hk
    by_cases h5 : noEl (p.getD k 0) = true
    · rw [h4 h5] at h3; cases h3
    · generalize p.getD k 0 = z at *
      unfold noEl at h5
      simp at h5
      omega)
  obtain ⟨i0, zi, hz0, hz1, hz2⟩ := info_parts infoInt
  have HII := Lib.hid (show _ ∧ _ ∧ _ ∧ _ from ⟨zi, hz0, hz1, hz2⟩)
  obtain ⟨j0, ki, kz0, kz1, kz2⟩ := info_parts infoSl
  have KI := Lib.hid (show _ ∧ _ ∧ _ ∧ _ from ⟨ki, kz0, kz1, kz2⟩)
  replace h9 := Lib.hid h9
  clear h3 hb h1 h2 zi hz0 hz1 hz2 ki kz0 kz1 kz2 hi
  go_enter Try.func55, Try.ntmps55
  go_wp2_with fail
  clear g0 g1 g2
  go_loopw [8] (fun kv wr => ∃ k : Nat, k ≤ p.length ∧ kv = .int .i64 k ∧ Hid (∀ q, q < k → noEl (p.getD q 0) = false) ∧ Hid (Below w.heap.size w wr)) (fun kv _ => p.length - (intOf kv).toNat)
  case atStart => exact ⟨0, by omega, rfl, Lib.hid (fun q h => by omega), Lib.hid (Below.refl _ _)⟩
  case round =>
    obtain ⟨k, hk, rfl, HN, HB⟩ := hrel
    have hkw : wrap64 ((k : Int) + 1) = k + 1 := IntWalk.wrap64_in _ (by omega)
    have HK8 := Lib.hid (show ((k + 1 : Nat) : Int) = (k : Int) + 1 by omega)
    by_cases hlt : k < p.length
    · obtain ⟨a2, cap2, hva, -, hcs⟩ := HP.out.step HB.out
      obtain ⟨rfl, rfl⟩ : pa = a2 ∧ pc = cap2 := by simpa using hva
      obtain ⟨b, off, rfl, hcs2⟩ := hcs (by intro h; rw [h] at hlt; simp at hlt)
      have x0 := hcs2 k _ (getD_of hlt)
      clear hcs hcs2 hva
      have HIT := Lib.hid (any_hit (l := p) hlt)
      have HN2 := Lib.hid (show noEl (p.getD k 0) = false → ∀ q, q < k + 1 → noEl (p.getD q 0) = false from fun hx q h => by
        by_cases e : q = k
        · subst e; exact hx
        · exact HN.out q (by omega))
      have t1 : (k : Int) < p.length := by omega
      have t2 : (0 : Int) ≤ k := by omega
      generalize p.getD k 0 = x at *
      by_cases h1 : x < -1
      · have HX := Lib.hid (show noEl x = true by unfold noEl; simp [h1])
        have u1 : decide (x < -1) = true := by simpa using h1
        exfalso
        have h7 := HIT.out HX.out
        rw [HA.out] at h7
        cases h7
      · have u1 : decide (x < -1) = false := by simpa using h1
        by_cases h2 : 2147483647 ≤ x
        · have HX := Lib.hid (show noEl x = true by unfold noEl; simp [h1, h2])
          have u2 : decide (x ≥ 2147483647) = true := by simpa using h2
          exfalso
          have h7 := HIT.out HX.out
          rw [HA.out] at h7
          cases h7
        · have HX := Lib.hid (show noEl x = false by unfold noEl; simp [h1, h2])
          have u2 : decide (x ≥ 2147483647) = false := by simpa using h2
          have u3 : decide (2147483647 ≤ x) = false := by simpa using h2
          go_wp2_with fail
          go_quiet (first | (go_at_call 71; exact Calls.quiet_of_same (modulus_q _ _)))
          go_wp2
          go_roundw
          case rel => exact ⟨k + 1, hlt, by rw [HK8.out], Lib.hid (HN2.out HX.out), Lib.hid (HB.out.trans (below_drewN' _ _ _))⟩
          case measure => have h3 := HK8.out; simp [intOf]; omega
    · clear hkw HK8
      have HBW := Lib.hid HB.out
      obtain ⟨y1, w1, hr1, ho1, hb1⟩ := copy_run wr _ l 22 (H.out.step HB.out) (by have := h9.out; omega)
      have HO1 := Lib.hid ho1
      have HB1 := Lib.hid hb1
      obtain ⟨ya, yc, rfl⟩ := row_slice ho1
      clear ho1 hb1 HN hk HB
      go_wp2_with (at_builtin; refine wpList_appI rfl _ _ 22 rfl _ _ (.slice ya l.length yc) rfl rfl hr1 ?_)
      have HBX := Lib.hid (HBW.out.trans (HB1.out.mono HBW.out.size))
      have HR1 := Lib.hid (row_base HO1.out HBW.out.size)
      clear hr1 HO1 HB1 HBW
      refine (rsum_any _ l _ (H.out.step HBX.out)).mono ?_
      rintro e w2 ⟨rfl, n2, hw2⟩
      have HB2 := Lib.hid (show Below w.heap.size w w2 from HBX.out.trans (hw2 ▸ below_drewN' _ _ _))
      have HR2 := Lib.hid (row_step HR1.out (show Below w1.heap.size w1 w2 from hw2 ▸ below_drewN' _ _ _))
      clear hw2 HBX HR1
      obtain ⟨d1, hd1⟩ : ∃ z, Dg l = z := ⟨_, rfl⟩
      rw [hd1]
      have HL2 := Lib.hid (ListsR.two (d := d1) HB2.out.size HR2.out)
      have HB3 := Lib.hid ((HB2.out.alloc HB2.out.size (.cells #[.int .i64 0, .int .i64 d1] 3)).alloc (by have := HB2.out.size; simp; omega) (.cells #[.slice ya l.length yc, .slice (some ⟨w2.heap.size, 0, none⟩) 2 2] 22))
      have HI3 := Lib.hid ((ints_lit w2 [0, d1] #[.int .i64 0, .int .i64 d1] 3 rfl (by simp) 2 rfl w2.heap.size rfl).step (al (w2.alloc (.cells #[.int .i64 0, .int .i64 d1] 3)) (.cells #[.slice ya l.length yc, .slice (some ⟨w2.heap.size, 0, none⟩) 2 2] 22)))
      have HC3 := Lib.hid (Cs.new (w2.alloc (.cells #[.int .i64 0, .int .i64 d1] 3)) (w2.heap.size + 1) #[.slice ya l.length yc, .slice (some ⟨w2.heap.size, 0, none⟩) 2 2] 22 (by simp))
      have x1 := HC3.out.c 1 rfl
      have xz := HC3.out.2.2
      go_wp2_with fail
      refine (rsum_any _ [0, d1] _ HI3.out).mono ?_
      rintro e w4 ⟨rfl, n4, hw4⟩
      have hb4 := (show Below ((w2.alloc (.cells #[.int .i64 0, .int .i64 d1] 3)).alloc (.cells #[.slice ya l.length yc, .slice (some ⟨w2.heap.size, 0, none⟩) 2 2] 22)).heap.size _ w4 from hw4 ▸ below_drewN' _ _ _)
      have HB4 := Lib.hid (keep2 hb4 HB3.out)
      have HL4 := Lib.hid (show ListsR w.heap.size (stK l i p 0).L _ w4 from by
        have h := HL2.out.step hb4
        rw [← hd1] at h
        exact h)
      have HH := Lib.hid (show Dg [0, d1] = (stK l i p 0).h by rw [← hd1]; rfl)
      clear hw4 hb4 hd1 HL2 HB3 HI3 HC3 x1 xz HB2 HR2
      rw [HH.out]
      go_wp2_with fail
      go_loopw [1, 9, 10, 11] (fun iv lv hv kv wr => ∃ k : Nat, k ≤ p.length ∧ kv = .int .i64 k ∧ iv = .int .i64 (stK l i p k).i ∧ hv = .int .i64 (stK l i p k).h ∧ Hid (ListsR w.heap.size (stK l i p k).L lv wr) ∧ Hid (Below w.heap.size w wr)) (fun _ _ _ kv _ => p.length - (intOf kv).toNat)
      case atStart => exact ⟨0, by omega, rfl, rfl, rfl, HL4, HB4⟩
      case round =>
        clear HL4 HB4 HH hlt
        obtain ⟨k, hk, rfl, rfl, rfl, HL, HB⟩ := hrel
        have HK8 := Lib.hid (show ((k + 1 : Nat) : Int) = (k : Int) + 1 by omega)
        have hkw : wrap64 ((k : Int) + 1) = k + 1 := IntWalk.wrap64_in _ (by omega)
        obtain ⟨la, lc, rfl⟩ := HL.out.slice
        by_cases hlt : k < p.length
        · obtain ⟨a2, cap2, hva, -, hcs⟩ := HP.out.step HB.out
          obtain ⟨rfl, rfl⟩ : pa = a2 ∧ pc = cap2 := by simpa using hva
          obtain ⟨b, off, rfl, hcs2⟩ := hcs (by intro h; rw [h] at hlt; simp at hlt)
          have x0 := hcs2 k _ (getD_of hlt)
          have hx1 := HRNG.out k hlt
          clear hcs hcs2 hva hk
          have hs : stK l i p (k + 1) = stN (stK l i p k) (p.getD k 0) := rfl
          have hii := HI.out k
          have HLL := Lib.hid (show (stK l i p k).L.length ≤ 900 by have := stK_L l i p k; omega)
          have HS := Lib.hid hs
          clear hs
          generalize p.getD k 0 = x at *
          generalize stK l i p k = s at *
          obtain ⟨si, sh, sL⟩ := s
          simp only at hii HLL HL ⊢
          obtain ⟨ln, hln⟩ : ∃ n, sL.length = n := ⟨_, rfl⟩
          have HLN := Lib.hid (show sL.length = ln ∧ ln ≤ 900 from ⟨hln, by rw [← hln]; exact HLL.out⟩)
          rw [hln] at HL ⊢
          obtain ⟨xs, hown, hxs⟩ := HL.out
          rw [hln] at hown
          have HOW := Lib.hid hown
          have HXS := Lib.hid hxs
          have HXL := Lib.hid (show xs.length = ln by have := hown.1; omega)
          clear hln hown hxs HLL
          have hq1 : (si.tmod 2) = si % 2 := Int.tmod_eq_emod_of_nonneg hii.1
          have hq2 : (si.tdiv 2) = si / 2 := Int.tdiv_eq_ediv_of_nonneg hii.1
          have hw1 : wrap64 (si % 2) = si % 2 := IntWalk.wrap64_in _ (by omega)
          have hw2 : wrap64 (si / 2) = si / 2 := IntWalk.wrap64_in _ (by omega)
          have t5 : (k : Int) < p.length := by omega
          have t6 : (0 : Int) ≤ k := by omega
          by_cases hx : x = -1
          · have HN := Lib.hid (show stN ⟨si, sh, sL⟩ x = ⟨si / 2, sh, sL⟩ by unfold stN; rw [if_pos hx])
            have t1 : decide (x ≥ 0) = false := by simp; omega
            have t2 : decide (0 ≤ x) = false := by simp; omega
            have t3 : (0 ≤ x) = False := by simp; omega
            clear hx hx1
            go_wp2
            go_roundw
            case rel => exact ⟨k + 1, hlt, by rw [HK8.out], by rw [HS.out, HN.out], by rw [HS.out, HN.out], Lib.hid (by rw [HS.out, HN.out]; exact HL.out), HB⟩
            case measure => have h3 := HK8.out; simp [intOf]; omega
          · have t1 : decide (x ≥ 0) = true := by simp; omega
            have t2 : decide (0 ≤ x) = true := by simp; omega
            have t3 : (0 ≤ x) = True := by simp; omega
            have x0b := keep1 (al wr (.cells #[.int .i64 1, .int .i64 sh, .int .i64 x] 3)) x0
            by_cases ho : si % 2 = 1
            · have HN := Lib.hid (show stN ⟨si, sh, sL⟩ x = ⟨si / 2, nd x sh, sL ++ [[1, x, sh]]⟩ by unfold stN; rw [if_neg hx]; simp only []; rw [if_pos ho])
              have t7 : (si % 2 == 1) = true := by simp; exact ho
              clear hx hx1
              have HLR := Lib.hid (show ((wr.alloc (.cells #[.int .i64 1, .int .i64 sh, .int .i64 x] 3)).alloc (.cells #[.int .i64 1, .int .i64 x, .int .i64 sh] 3)).ownsRow w.heap.size 3 1 (.slice (some ⟨wr.heap.size + 1, 0, none⟩) 3 3) ([1, x, sh] : List Int).length (([1, x, sh] : List Int).map (Value.int .i64)) from (show ((wr.alloc (.cells #[.int .i64 1, .int .i64 sh, .int .i64 x] 3)).alloc (.cells #[.int .i64 1, .int .i64 x, .int .i64 sh] 3)).ownsRow w.heap.size 3 1 (.slice (some ⟨wr.heap.size + 1, 0, none⟩) 3 3) 3 ([1, x, sh].map (Value.int .i64)) from by
                have h := row_lit (W := (wr.alloc (.cells #[.int .i64 1, .int .i64 sh, .int .i64 x] 3))) (n0 := w.heap.size) [1, x, sh] #[.int .i64 1, .int .i64 x, .int .i64 sh] rfl (by simp) (by have := HB.out.size; simp; omega) 3 rfl
                have hz : (wr.alloc (.cells #[.int .i64 1, .int .i64 sh, .int .i64 x] 3)).heap.size = wr.heap.size + 1 := by simp
                rw [hz] at h
                exact h))
              have HBl := Lib.hid (show Below wr.heap.size wr ((wr.alloc (.cells #[.int .i64 1, .int .i64 sh, .int .i64 x] 3)).alloc (.cells #[.int .i64 1, .int .i64 x, .int .i64 sh] 3)) from al2)
              have HB5 := Lib.hid (HBl.out.alloc HBl.out.size (.cells #[.slice (some ⟨wr.heap.size + 1, 0, none⟩) 3 3] 22))
              have HC5 := Lib.hid (Cs.new ((wr.alloc (.cells #[.int .i64 1, .int .i64 sh, .int .i64 x] 3)).alloc (.cells #[.int .i64 1, .int .i64 x, .int .i64 sh] 3)) (wr.heap.size + 1 + 1) #[.slice (some ⟨wr.heap.size + 1, 0, none⟩) 3 3] 22 (by simp))
              have c3 := Lib.hid (Nat.le_trans HB.out.size HB5.out.size)
              go_wp2_with (at_builtin; refine wpList_append_own _ rfl _ _ 25 rfl w.heap.size 22 j0 (.slice none 0 0) 1 24 Try.underlying25 KI.out.1 KI.out.2.1 KI.out.2.2.1 KI.out.2.2.2 rfl (by decide) _ _ _ rfl (row_step HOW.out HB5.out) ⟨wr.heap.size + 1 + 1, 0, none⟩ 1 1 [.slice (some ⟨wr.heap.size + 1, 0, none⟩) 3 3] rfl rfl (one_at HC5.out) (by simp [Value.oneCell']) (by have := HLN.out.2; unfold maxLen; omega) (by have := HLN.out.2; omega) c3.out ?_; intro v' w5 hown' hgrow hnil; clear hnil; have HLX := Lib.hid (ListsR.snoc (W := ((wr.alloc (.cells #[.int .i64 1, .int .i64 sh, .int .i64 x] 3)).alloc (.cells #[.int .i64 1, .int .i64 x, .int .i64 sh] 3)).alloc (.cells #[.slice (some ⟨wr.heap.size + 1, 0, none⟩) 3 3] 22)) (Ls := sL) (l := [1, x, sh]) (u := .slice (some ⟨wr.heap.size + 1, 0, none⟩) 3 3) (fun i y h => by obtain ⟨u, e1, e2, e3⟩ := HXS.out i y h; exact ⟨u, e1, e2, row_step e3 HB5.out⟩) (by rw [HLN.out.1]; exact HXL.out) (by rw [HLN.out.1]; exact row_step HOW.out HB5.out) (row_step HLR.out (al _ _)) rfl hgrow (by rw [HLN.out.1]; exact hown')); have HLI := Lib.hid (ints_of_row (row_grown (row_step HLR.out (al _ (.cells #[.slice (some ⟨wr.heap.size + 1, 0, none⟩) 3 3] 22))) hgrow (fun k e => row_type (row_step HLR.out (al _ (.cells #[.slice (some ⟨wr.heap.size + 1, 0, none⟩) 3 3] 22))) (row_step HOW.out HB5.out) (by decide) e))); have HB6 := Lib.hid ((HB.out.trans (HB5.out.mono HB.out.size)).grown hgrow c3.out (fun k e => row_own (row_step HOW.out HB5.out) e)); clear hown' hgrow; obtain ⟨va, vc, rfl⟩ := HLX.out.slice; replace HLX := Lib.hid (show ListsR _ _ (.slice va (sL.length + 1) vc) w5 from by have h := HLX.out; rwa [List.length_append] at h))
              refine (rsum_any _ [1, x, sh] _ HLI.out).mono ?_
              rintro e w6 ⟨rfl, n6, hw6⟩
              have HB7 := Lib.hid (show Below w.heap.size w w6 from HB6.out.trans (hw6 ▸ below_drewN' _ _ _))
              have HLY := Lib.hid (HLX.out.step (show Below w5.heap.size w5 w6 from hw6 ▸ below_drewN' _ _ _))
              rw [show Dg [1, x, sh] = nd x sh from rfl]
              clear hw6 HLX HLI HB6 HB5 HBl HLR HC5
              go_wp2
              go_roundw
              case rel => exact ⟨k + 1, hlt, by rw [HK8.out], by rw [HS.out, HN.out], by rw [HS.out, HN.out], Lib.hid (by rw [HS.out, HN.out]; exact HLY.out), HB7⟩
              case measure => have h3 := HK8.out; simp [intOf]; omega
            · have HN := Lib.hid (show stN ⟨si, sh, sL⟩ x = ⟨si / 2, nd sh x, sL ++ [[1, sh, x]]⟩ by unfold stN; rw [if_neg hx]; simp only []; rw [if_neg ho])
              have t7 : (si % 2 == 1) = false := by simp; omega
              clear hx hx1
              have HLR := Lib.hid (show (wr.alloc (.cells #[.int .i64 1, .int .i64 sh, .int .i64 x] 3)).ownsRow w.heap.size 3 1 (.slice (some ⟨wr.heap.size, 0, none⟩) 3 3) ([1, sh, x] : List Int).length (([1, sh, x] : List Int).map (Value.int .i64)) from row_lit [1, sh, x] #[.int .i64 1, .int .i64 sh, .int .i64 x] rfl (by simp) HB.out.size 3 rfl)
              have HBl := Lib.hid (show Below wr.heap.size wr (wr.alloc (.cells #[.int .i64 1, .int .i64 sh, .int .i64 x] 3)) from al wr _)
              have HB5 := Lib.hid (HBl.out.alloc HBl.out.size (.cells #[.slice (some ⟨wr.heap.size, 0, none⟩) 3 3] 22))
              have HC5 := Lib.hid (Cs.new (wr.alloc (.cells #[.int .i64 1, .int .i64 sh, .int .i64 x] 3)) (wr.heap.size + 1) #[.slice (some ⟨wr.heap.size, 0, none⟩) 3 3] 22 (by simp))
              have c3 := Lib.hid (Nat.le_trans HB.out.size HB5.out.size)
              go_wp2_with (at_builtin; refine wpList_append_own _ rfl _ _ 25 rfl w.heap.size 22 j0 (.slice none 0 0) 1 24 Try.underlying25 KI.out.1 KI.out.2.1 KI.out.2.2.1 KI.out.2.2.2 rfl (by decide) _ _ _ rfl (row_step HOW.out HB5.out) ⟨wr.heap.size + 1, 0, none⟩ 1 1 [.slice (some ⟨wr.heap.size, 0, none⟩) 3 3] rfl rfl (one_at HC5.out) (by simp [Value.oneCell']) (by have := HLN.out.2; unfold maxLen; omega) (by have := HLN.out.2; omega) c3.out ?_; intro v' w5 hown' hgrow hnil; clear hnil; have HLX := Lib.hid (ListsR.snoc (W := (wr.alloc (.cells #[.int .i64 1, .int .i64 sh, .int .i64 x] 3)).alloc (.cells #[.slice (some ⟨wr.heap.size, 0, none⟩) 3 3] 22)) (Ls := sL) (l := [1, sh, x]) (u := .slice (some ⟨wr.heap.size, 0, none⟩) 3 3) (fun i y h => by obtain ⟨u, e1, e2, e3⟩ := HXS.out i y h; exact ⟨u, e1, e2, row_step e3 HB5.out⟩) (by rw [HLN.out.1]; exact HXL.out) (by rw [HLN.out.1]; exact row_step HOW.out HB5.out) (row_step HLR.out (al _ _)) rfl hgrow (by rw [HLN.out.1]; exact hown')); have HLI := Lib.hid (ints_of_row (row_grown (row_step HLR.out (al _ (.cells #[.slice (some ⟨wr.heap.size, 0, none⟩) 3 3] 22))) hgrow (fun k e => row_type (row_step HLR.out (al _ (.cells #[.slice (some ⟨wr.heap.size, 0, none⟩) 3 3] 22))) (row_step HOW.out HB5.out) (by decide) e))); have HB6 := Lib.hid ((HB.out.trans (HB5.out.mono HB.out.size)).grown hgrow c3.out (fun k e => row_own (row_step HOW.out HB5.out) e)); clear hown' hgrow; obtain ⟨va, vc, rfl⟩ := HLX.out.slice; replace HLX := Lib.hid (show ListsR _ _ (.slice va (sL.length + 1) vc) w5 from by have h := HLX.out; rwa [List.length_append] at h))
              refine (rsum_any _ [1, sh, x] _ HLI.out).mono ?_
              rintro e w6 ⟨rfl, n6, hw6⟩
              have HB7 := Lib.hid (show Below w.heap.size w w6 from HB6.out.trans (hw6 ▸ below_drewN' _ _ _))
              have HLY := Lib.hid (HLX.out.step (show Below w5.heap.size w5 w6 from hw6 ▸ below_drewN' _ _ _))
              rw [show Dg [1, sh, x] = nd sh x from rfl]
              clear hw6 HLX HLI HB6 HB5 HBl HLR HC5
              go_wp2
              go_roundw
              case rel => exact ⟨k + 1, hlt, by rw [HK8.out], by rw [HS.out, HN.out], by rw [HS.out, HN.out], Lib.hid (by rw [HS.out, HN.out]; exact HLY.out), HB7⟩
              case measure => have h3 := HK8.out; simp [intOf]; omega
        · obtain rfl : k = p.length := by omega
          clear hk hkw HK8
          go_wp2_with fail
          exact bodyPost_ret (v := .tuple #[.int .i64 (stK l i p p.length).h, .slice la (stK l i p p.length).L.length lc]) (by simp [results, Try.results55, go_sem]) rfl ⟨⟨_, rfl, HL.out⟩, HB.out⟩

open Go.RowKit

theorem clL_len (l : List Int) (i : Int) (p : List Int) : (clL l i p).length ≤ 100 := by
  unfold clL
  cases hb : clB i p
  · rw [if_neg (by decide)]
    have := stK_L l i p p.length
    have h2 : p.length ≤ 20 := by
      unfold clB at hb
      rw [Bool.or_eq_false_iff, Bool.or_eq_false_iff, decide_eq_false_iff_not, decide_eq_false_iff_not] at hb
      omega
    omega
  · rw [if_pos rfl]; simp
theorem rclimbR_any (v pv : Value) (l p : List Int) (i : Int) (w : World) (h : IntsAt w v l) (hp : IntsAt w pv p) (h9 : l.length ≤ 1000) (hi : i ≤ 9223372036854775807) :
    Calls Try.prog 55 #[v, .int .i64 i, pv] w fun e w' => ∃ u, e = .returned (.tuple #[.int .i64 (clH l i p), u]) ∧ RowsAt w' u (clL l i p) ∧ Below w.heap.size w w' := by
  have hl := clL_len l i p
  cases hb : clB i p
  · rw [show clH l i p = (stK l i p p.length).h by unfold clH; rw [hb]; rfl, show clL l i p = (stK l i p p.length).L by unfold clL; rw [hb]; rfl]
    rw [show clL l i p = (stK l i p p.length).L by unfold clL; rw [hb]; rfl] at hl
    exact (rclimb_main v pv l p i w h hp h9 hi hb).mono fun e w' ⟨⟨u, h1, h2⟩, h3⟩ => ⟨u, h1, h2.rows (by omega), h3⟩
  · rw [show clH l i p = 0 by unfold clH; rw [hb]; rfl, show clL l i p = [] by unfold clL; rw [hb]; rfl]
    exact (rclimb_no v pv l p i w h hp hb).mono fun e w' h => ⟨_, h.1, rows_nil _, h.2⟩
theorem intsB_any (v u : Value) (l : List Int) (w : World) (h : IntsAt w v l) (h' : IntsAt w u l) : Calls Try.prog 21 #[v, u] w fun e w' => e = .returned (.bool true) ∧ Below w.heap.size w w' :=
  (ints_any v u l l w h h').mono fun e w' ⟨h1, n, h2⟩ => ⟨by rw [h1, decide_eq_true rfl], h2 ▸ below_drewN' _ _ _⟩
end Go.Proofs.Yteodafhgfcbdpaa
