/- Shedding: the library's merge in place: one element to the right, one to the left. -/
import Derived.Test.YtpablikcidlkaaaSe
namespace Go.Proofs.Ytpablikcidlkaaa
open Go.RowKit

theorem srch_go {q : Nat → Bool} {i j : Nat} (h : i < j) : srch q i j = if q ((i + j) / 2) = true then srch q ((i + j) / 2 + 1) j else srch q i ((i + j) / 2) := by rw [srch, dif_pos h]
theorem srch_end {q : Nat → Bool} {i j : Nat} (h : ¬ i < j) : srch q i j = i := by rw [srch, dif_neg h]
set_option maxRecDepth 100000 in
set_option maxHeartbeats 8000000 in
theorem symA (b1 b2 g n c : Nat) (l : List (Int × Int)) (L0 : List Nat) (a m b : Nat) (w : World) (h : OA w g L0) (hn : L0.length = n) (hx : Ix l.length L0) (hc : CmpOK l g b1 b2 w) (hm : m = a + 1) (hb : m < b) (hbn : b ≤ n) (h9 : n ≤ 100000) :
    Calls Try.prog 42 #[.slice (some ⟨g, 0, none⟩) n c, .int .i64 a, .int .i64 m, .int .i64 b, .func (.func 38) #[] #[.pointer (some ⟨b1, 0, none⟩), .pointer (some ⟨b2, 0, none⟩)]] w fun e w' => e = .returned (.tuple #[]) ∧ OA w' g (mvR a (srch (fun h => lessAt (pri l) L0 h a) m b - 1 - a) L0) ∧ Below g w w' := by
  have HO := Lib.hid h
  have HN := Lib.hid hn
  have HX := Lib.hid hx
  have HC := Lib.hid hc
  clear h hn hx hc
  obtain ⟨R, hR⟩ : ∃ R, srch (fun h => lessAt (pri l) L0 h a) m b = R := ⟨_, rfl⟩
  rw [hR]
  have HR := Lib.hid hR
  have hRr : m ≤ R ∧ R ≤ b := by rw [← hR]; exact srch_in _ _ m b rfl (by omega)
  obtain ⟨hR1, hR2⟩ := hRr
  obtain ⟨T, hT⟩ : ∃ T, mvR a (R - 1 - a) L0 = T := ⟨_, rfl⟩
  rw [hT]
  have HT := Lib.hid hT
  clear hR hT
  have c0 : (m : Int) - (a : Int) = 1 := by omega
  have heg : ∀ args w, (callFunc 38 args).run Try.prog w = .ok (.enter 38 args) w := fun _ _ => by kernel_rfl
  have hm1 : a < m := by omega
  have hm2 : m ≤ a + 1 := by omega
  clear hm
  go_enter Try.func42, Try.ntmps42
  go_wp2_with fail
  go_loopw [10, 11] (fun iv jv wr => ∃ i j : Nat, m ≤ i ∧ i ≤ j ∧ j ≤ b ∧ iv = .int .i64 i ∧ jv = .int .i64 j ∧ Hid (srch (fun h => lessAt (pri l) L0 h a) i j = R) ∧ Hid (OA wr g L0) ∧ Hid (Below g w wr)) (fun iv jv _ => (intOf jv).toNat - (intOf iv).toNat)
  case atStart => exact ⟨m, b, by omega, by omega, by omega, by first | rfl | go_num, by first | rfl | go_num, HR, HO, Lib.hid (Below.refl _ _)⟩
  case round =>
    clear HO HR
    obtain ⟨i, j, hi, hij, hj, rfl, rfl, HR, HO, HB⟩ := hrel
    by_cases hlt : i < j
    · have hr := HR.out
      rw [srch_go hlt] at hr
      have hH1 : i ≤ (i + j) / 2 := by omega
      have hH2 : (i + j) / 2 < j := by omega
      have hH3 : ((i : Int) + (j : Int)) / 2 = (((i + j) / 2 : Nat) : Int) := by omega
      obtain ⟨H, hHd⟩ : ∃ H, (i + j) / 2 = H := ⟨_, rfl⟩
      rw [hHd] at hr hH1 hH2 hH3
      have ho := HO.out
      have x0 := ho.cell (i := H) (by rw [HN.out]; omega)
      have x1 := ho.cell (i := a) (by rw [HN.out]; omega)
      have hu := HX.out (H) (by rw [HN.out]; omega)
      have hv := HX.out (a) (by rw [HN.out]; omega)
      have xb := ho.lt
      have HHd := Lib.hid hHd
      have hcm := cmI_neg (pri l (L0.getD (a) 0)) (pri l (L0.getD (H) 0))
      have hr2 : (if (decide (pri l (L0.getD a 0) < pri l (L0.getD H 0))) = true then srch (fun h => lessAt (pri l) L0 h a) (H + 1) j else srch (fun h => lessAt (pri l) L0 h a) i H) = R := hr
      rw [← hcm] at hr2
      have HCC := Lib.hid (fun (W : World) (hw : Below g w W) => HC.out W hw _ _ hu hv)
      clear hr ho hu hv hcm hHd HR
      obtain ⟨cm, hcm⟩ : ∃ z, cmI (pri l (L0.getD (a) 0)) (pri l (L0.getD (H) 0)) = z := ⟨_, rfl⟩
      rw [hcm] at hr2 HCC
      have HR2 := Lib.hid hr2
      clear hcm hr2
      generalize L0.getD (H) 0 = u at *
      generalize L0.getD (a) 0 = v at *
      have t9 : (H : Int) < (n : Int) := by omega
      have t9b : H < n := by omega
      have t10 : (a : Int) < (n : Int) := by omega
      have t10b : a < n := by omega
      have t11 : IntKind.i64.wrap (H : Int) = (H : Int) := IntWalk.i64_in _ (by omega)
      have hgw : g ≤ wr.heap.size := Nat.le_of_lt xb
      go_wp2_with fail
      go_still_tail 9, (by kernel_rfl)
      change wpList _ _ _ _ _ wr.drew
      obtain ⟨w2, hw2⟩ : ∃ z, wr.drew = z := ⟨_, rfl⟩
      have b0 : Below wr.heap.size wr w2 := by rw [← hw2]; exact below_drew _ _
      rw [hw2]
      clear hw2
      go_wp2_with fail
      refine (HCC.out w2 (HB.out.trans (b0.mono hgw))).mono ?_
      rintro e w3 ⟨rfl, b3⟩
      have B3 := Lib.hid (HB.out.trans ((keep2 b3 b0).mono hgw))
      have O3 := Lib.hid (HO.out.step (keep2 b3 b0))
      clear b3 b0 x0 x1 xb hgw HCC HO HB
      have hr2 := HR2.out
      clear HR2
      by_cases hcm : cm < 0
      · rw [decide_eq_true hcm] at hr2
        have HR3 := Lib.hid (show srch (fun h => lessAt (pri l) L0 h a) (H + 1) j = R from hr2)
        have hcb : decide (cm < 0) = true := decide_eq_true hcm
        clear hr2
        go_wp2
        go_roundw
        case rel => exact ⟨H + 1, j, by omega, by omega, by omega, by first | rfl | go_num, by first | rfl | go_num, HR3, O3, B3⟩
        case measure => first | (simp [intOf]; done) | (simp [intOf]; omega)
      · rw [decide_eq_false hcm] at hr2
        have HR3 := Lib.hid (show srch (fun h => lessAt (pri l) L0 h a) i H = R from hr2)
        have hcb : decide (cm < 0) = false := decide_eq_false hcm
        clear hr2
        go_wp2
        go_roundw
        case rel => exact ⟨i, H, by omega, by omega, by omega, by first | rfl | go_num, by first | rfl | go_num, HR3, O3, B3⟩
        case measure => first | (simp [intOf]; done) | (simp [intOf]; omega)
    · have hr := HR.out
      rw [srch_end hlt] at hr
      subst hr
      clear HR
      obtain rfl : i = j := by omega
      obtain ⟨S, hS⟩ : ∃ S, i - 1 = S := ⟨_, rfl⟩
      have hS2 : (i : Int) - 1 = (S : Int) := by omega
      have hT := HT.out
      rw [hS] at hT
      replace HT := Lib.hid hT
      clear hT
      obtain ⟨W1, hW1⟩ : ∃ z, z = wr := ⟨_, rfl⟩
      subst hW1
      go_wp2_with fail
      go_loopw [13] (fun kv wr => ∃ k : Nat, a ≤ k ∧ k ≤ S ∧ kv = .int .i64 k ∧ Hid (∃ L, L.length = n ∧ OA wr g L ∧ mvR k (S - k) L = T) ∧ Hid (Below g w wr)) (fun kv _ => S - (intOf kv).toNat)
      case atStart => exact ⟨a, by omega, by omega, by first | rfl | go_num, Lib.hid ⟨L0, HN.out, HO.out, HT.out⟩, HB⟩
      case round =>
        clear HO HB HT
        obtain ⟨k, hk1, hk2, rfl, HL, HB⟩ := hrel
        obtain ⟨L, hl, ho, ht⟩ := HL.out
        clear HL
        by_cases hlk : k < S
        · obtain ⟨d, hd⟩ : ∃ d, S - k = d + 1 := ⟨S - k - 1, by omega⟩
          rw [hd] at ht
          have ht2 : mvR (k + 1) (S - (k + 1)) (sw L k (k + 1)) = T := by rw [show S - (k + 1) = d by omega]; exact ht
          clear hd
          have x0 := ho.cell (i := k) (by omega)
          have x1 := ho.cell (i := k + 1) (by omega)
          have y0 := ho.frozen (i := k) (by omega)
          have y1 := ho.frozen (i := k + 1) (by omega)
          have HS := Lib.hid (ho.sw (i := k) (j := k + 1) (by omega) (by omega))
          have HTT := Lib.hid ht2
          have HLL := Lib.hid (show (sw L (k) (k + 1)).length = n by rw [sw_len]; exact hl)
          have hs1 := ho.set (i := k) (x := L.getD (k + 1) 0) (by omega)
          have x2 := hs1.cell (i := k + 1) (by rw [List.length_set]; omega)
          have y2 := hs1.frozen (i := k + 1) (by rw [List.length_set]; omega)
          have xb := ho.lt
          have HB2 := Lib.hid ((HB.out.setCell (p := ⟨g, k, none⟩) (Nat.le_refl _) (.int .i64 ((L.getD (k + 1) 0 : Nat) : Int))).setCell (p := ⟨g, k + 1, none⟩) (Nat.le_refl _) (.int .i64 ((L.getD (k) 0 : Nat) : Int)))
          clear ht ht2 ho hl hs1
          generalize (L.set (k) (L.getD (k + 1) 0)).getD (k + 1) 0 = v2 at *
          generalize L.getD (k) 0 = u at *
          generalize L.getD (k + 1) 0 = v at *
          have t1 : (k : Int) < (S : Int) := by omega
          have t2 : (k : Int) + 1 < (n : Int) := by omega
          have t3 : k + 1 < n := by omega
          have t4 : (0 : Int) ≤ (k : Int) + 1 := by omega
          have t5 : k < n := by omega
          have t6 : (k : Int) < (n : Int) := by omega
          go_wp2_with fail
          go_region
          go_wp2
          go_roundw
          case rel => exact ⟨k + 1, by omega, by omega, by first | rfl | go_num, Lib.hid ⟨sw L (k) (k + 1), HLL.out, HS.out.step (below_drew _ _), HTT.out⟩, Lib.hid (HB2.out.trans (below_drew _ _))⟩
          case measure => first | (simp [intOf]; done) | (simp [intOf]; omega)
        · rw [show S - k = 0 by omega] at ht
          have ht2 : L = T := ht
          subst ht2
          have HOO := Lib.hid ho
          clear ht ho hl
          have t1 : ¬ (k : Int) < (S : Int) := by omega
          go_wp2
          (try simp only [Exit.inBlock, Exit.then])
          refine bodyPost_ret (results_none rfl _ _ _) rfl ?_
          exact ⟨rfl, HOO.out, HB.out⟩
set_option maxRecDepth 100000 in
set_option maxHeartbeats 8000000 in
theorem symB (b1 b2 g n c : Nat) (l : List (Int × Int)) (L0 : List Nat) (a m b : Nat) (w : World) (h : OA w g L0) (hn : L0.length = n) (hx : Ix l.length L0) (hc : CmpOK l g b1 b2 w) (hm : b = m + 1) (ha : a < m) (ha1 : m ≠ a + 1) (hbn : b ≤ n) (h9 : n ≤ 100000) :
    Calls Try.prog 42 #[.slice (some ⟨g, 0, none⟩) n c, .int .i64 a, .int .i64 m, .int .i64 b, .func (.func 38) #[] #[.pointer (some ⟨b1, 0, none⟩), .pointer (some ⟨b2, 0, none⟩)]] w fun e w' => e = .returned (.tuple #[]) ∧ OA w' g (mvL m (m - srch (fun h => !lessAt (pri l) L0 m h) a m) L0) ∧ Below g w w' := by
  have HO := Lib.hid h
  have HN := Lib.hid hn
  have HX := Lib.hid hx
  have HC := Lib.hid hc
  clear h hn hx hc
  obtain ⟨R, hR⟩ : ∃ R, srch (fun h => !lessAt (pri l) L0 m h) a m = R := ⟨_, rfl⟩
  rw [hR]
  have HR := Lib.hid hR
  have hRr : a ≤ R ∧ R ≤ m := by rw [← hR]; exact srch_in _ _ a m rfl (by omega)
  obtain ⟨hR1, hR2⟩ := hRr
  obtain ⟨T, hT⟩ : ∃ T, mvL m (m - R) L0 = T := ⟨_, rfl⟩
  rw [hT]
  have HT := Lib.hid hT
  clear hR hT
  have c0 : (b : Int) - (m : Int) = 1 := by omega
  have c1 : ((m : Int) - (a : Int) == 1) = false := by simp; omega
  have heg : ∀ args w, (callFunc 38 args).run Try.prog w = .ok (.enter 38 args) w := fun _ _ => by kernel_rfl
  have hm1 : m < b := by omega
  have hm2 : b ≤ m + 1 := by omega
  clear hm ha1
  go_enter Try.func42, Try.ntmps42
  go_wp2_with fail
  go_loopw [14, 15] (fun iv jv wr => ∃ i j : Nat, a ≤ i ∧ i ≤ j ∧ j ≤ m ∧ iv = .int .i64 i ∧ jv = .int .i64 j ∧ Hid (srch (fun h => !lessAt (pri l) L0 m h) i j = R) ∧ Hid (OA wr g L0) ∧ Hid (Below g w wr)) (fun iv jv _ => (intOf jv).toNat - (intOf iv).toNat)
  case atStart => exact ⟨a, m, by omega, by omega, by omega, by first | rfl | go_num, by first | rfl | go_num, HR, HO, Lib.hid (Below.refl _ _)⟩
  case round =>
    clear HO HR
    obtain ⟨i, j, hi, hij, hj, rfl, rfl, HR, HO, HB⟩ := hrel
    by_cases hlt : i < j
    · have hr := HR.out
      rw [srch_go hlt] at hr
      have hH1 : i ≤ (i + j) / 2 := by omega
      have hH2 : (i + j) / 2 < j := by omega
      have hH3 : ((i : Int) + (j : Int)) / 2 = (((i + j) / 2 : Nat) : Int) := by omega
      obtain ⟨H, hHd⟩ : ∃ H, (i + j) / 2 = H := ⟨_, rfl⟩
      rw [hHd] at hr hH1 hH2 hH3
      have ho := HO.out
      have x0 := ho.cell (i := m) (by rw [HN.out]; omega)
      have x1 := ho.cell (i := H) (by rw [HN.out]; omega)
      have hu := HX.out (m) (by rw [HN.out]; omega)
      have hv := HX.out (H) (by rw [HN.out]; omega)
      have xb := ho.lt
      have HHd := Lib.hid hHd
      have hcm := cmI_neg (pri l (L0.getD (H) 0)) (pri l (L0.getD (m) 0))
      have hr2 : (if (!decide (pri l (L0.getD H 0) < pri l (L0.getD m 0))) = true then srch (fun h => !lessAt (pri l) L0 m h) (H + 1) j else srch (fun h => !lessAt (pri l) L0 m h) i H) = R := hr
      rw [← hcm] at hr2
      have HCC := Lib.hid (fun (W : World) (hw : Below g w W) => HC.out W hw _ _ hu hv)
      clear hr ho hu hv hcm hHd HR
      obtain ⟨cm, hcm⟩ : ∃ z, cmI (pri l (L0.getD (H) 0)) (pri l (L0.getD (m) 0)) = z := ⟨_, rfl⟩
      rw [hcm] at hr2 HCC
      have HR2 := Lib.hid hr2
      clear hcm hr2
      generalize L0.getD (m) 0 = u at *
      generalize L0.getD (H) 0 = v at *
      have t9 : (H : Int) < (n : Int) := by omega
      have t9b : H < n := by omega
      have t10 : (m : Int) < (n : Int) := by omega
      have t10b : m < n := by omega
      have t11 : IntKind.i64.wrap (H : Int) = (H : Int) := IntWalk.i64_in _ (by omega)
      have hgw : g ≤ wr.heap.size := Nat.le_of_lt xb
      go_wp2_with fail
      go_still_tail 9, (by kernel_rfl)
      change wpList _ _ _ _ _ wr.drew
      obtain ⟨w2, hw2⟩ : ∃ z, wr.drew = z := ⟨_, rfl⟩
      have b0 : Below wr.heap.size wr w2 := by rw [← hw2]; exact below_drew _ _
      rw [hw2]
      clear hw2
      go_wp2_with fail
      refine (HCC.out w2 (HB.out.trans (b0.mono hgw))).mono ?_
      rintro e w3 ⟨rfl, b3⟩
      have B3 := Lib.hid (HB.out.trans ((keep2 b3 b0).mono hgw))
      have O3 := Lib.hid (HO.out.step (keep2 b3 b0))
      clear b3 b0 x0 x1 xb hgw HCC HO HB
      have hr2 := HR2.out
      clear HR2
      by_cases hcm : cm < 0
      · rw [decide_eq_true hcm] at hr2
        have HR3 := Lib.hid (show srch (fun h => !lessAt (pri l) L0 m h) i H = R from hr2)
        have hcb : decide (cm < 0) = true := decide_eq_true hcm
        clear hr2
        go_wp2
        go_roundw
        case rel => exact ⟨i, H, by omega, by omega, by omega, by first | rfl | go_num, by first | rfl | go_num, HR3, O3, B3⟩
        case measure => first | (simp [intOf]; done) | (simp [intOf]; omega)
      · rw [decide_eq_false hcm] at hr2
        have HR3 := Lib.hid (show srch (fun h => !lessAt (pri l) L0 m h) (H + 1) j = R from hr2)
        have hcb : decide (cm < 0) = false := decide_eq_false hcm
        clear hr2
        go_wp2
        go_roundw
        case rel => exact ⟨H + 1, j, by omega, by omega, by omega, by first | rfl | go_num, by first | rfl | go_num, HR3, O3, B3⟩
        case measure => first | (simp [intOf]; done) | (simp [intOf]; omega)
    · have hr := HR.out
      rw [srch_end hlt] at hr
      subst hr
      clear HR
      obtain rfl : i = j := by omega
      obtain ⟨W1, hW1⟩ : ∃ z, z = wr := ⟨_, rfl⟩
      subst hW1
      go_wp2_with fail
      go_loopw [17] (fun kv wr => ∃ k : Nat, i ≤ k ∧ k ≤ m ∧ kv = .int .i64 k ∧ Hid (∃ L, L.length = n ∧ OA wr g L ∧ mvL k (k - i) L = T) ∧ Hid (Below g w wr)) (fun kv _ => (intOf kv).toNat)
      case atStart => exact ⟨m, by omega, by omega, by first | rfl | go_num, Lib.hid ⟨L0, HN.out, HO.out, HT.out⟩, HB⟩
      case round =>
        clear HO HB HT
        obtain ⟨k, hk1, hk2, rfl, HL, HB⟩ := hrel
        obtain ⟨L, hl, ho, ht⟩ := HL.out
        clear HL
        by_cases hlk : i < k
        · obtain ⟨y, rfl⟩ : ∃ y, k = y + 1 := ⟨k - 1, by omega⟩
          rw [show y + 1 - i = (y - i) + 1 by omega] at ht
          have ht2 : mvL y (y - i) (sw L (y + 1) y) = T := ht
          have x0 := ho.cell (i := y + 1) (by omega)
          have x1 := ho.cell (i := y) (by omega)
          have y0 := ho.frozen (i := y + 1) (by omega)
          have y1 := ho.frozen (i := y) (by omega)
          have HS := Lib.hid (ho.sw (i := y + 1) (j := y) (by omega) (by omega))
          have HTT := Lib.hid ht2
          have HLL := Lib.hid (show (sw L (y + 1) (y)).length = n by rw [sw_len]; exact hl)
          have hs1 := ho.set (i := y + 1) (x := L.getD (y) 0) (by omega)
          have x2 := hs1.cell (i := y) (by rw [List.length_set]; omega)
          have y2 := hs1.frozen (i := y) (by rw [List.length_set]; omega)
          have xb := ho.lt
          have HB2 := Lib.hid ((HB.out.setCell (p := ⟨g, y + 1, none⟩) (Nat.le_refl _) (.int .i64 ((L.getD (y) 0 : Nat) : Int))).setCell (p := ⟨g, y, none⟩) (Nat.le_refl _) (.int .i64 ((L.getD (y + 1) 0 : Nat) : Int)))
          clear ht ht2 ho hl hs1
          generalize (L.set (y + 1) (L.getD (y) 0)).getD (y) 0 = v2 at *
          generalize L.getD (y + 1) 0 = u at *
          generalize L.getD (y) 0 = v at *
          have t1 : (i : Int) < (y : Int) + 1 := by omega
          have t2 : (y : Int) + 1 < (n : Int) := by omega
          have t3 : y + 1 < n := by omega
          have t4 : (0 : Int) ≤ (y : Int) + 1 := by omega
          have t5 : y < n := by omega
          have t6 : (y : Int) < (n : Int) := by omega
          have t7 : (y : Int) + 1 - 1 = y := by omega
          have t8 : IntKind.i64.wrap (y : Int) = (y : Int) := IntWalk.i64_in _ (by omega)
          go_wp2_with fail
          go_region
          go_wp2
          go_roundw
          case rel => exact ⟨y, by omega, by omega, by first | rfl | go_num, Lib.hid ⟨sw L (y + 1) (y), HLL.out, HS.out.step (below_drew _ _), HTT.out⟩, Lib.hid (HB2.out.trans (below_drew _ _))⟩
          case measure => first | (simp [intOf]; done) | (simp [intOf]; omega)
        · rw [show k - i = 0 by omega] at ht
          have ht2 : L = T := ht
          subst ht2
          have HOO := Lib.hid ho
          clear ht ho hl
          have t1 : ¬ (i : Int) < (k : Int) := by omega
          go_wp2
          (try simp only [Exit.inBlock, Exit.then])
          refine bodyPost_ret (results_none rfl _ _ _) rfl ?_
          exact ⟨rfl, HOO.out, HB.out⟩
end Go.Proofs.Ytpablikcidlkaaa
