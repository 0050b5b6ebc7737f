/- Shedding: the library's merge in place: the general case. -/
import Derived.Test.YtpablikcidlkaaaSf
import Derived.Test.YtpablikcidlkaaaSh
namespace Go.Proofs.Ytpablikcidlkaaa
open Go.RowKit

theorem ix_perm {N : Nat} {L L' : List Nat} (h : Ix N L) (hp : L'.Perm L) : Ix N L' := by
  refine ix_of fun x hx => ?_
  have hx := hp.subset hx
  obtain ⟨i, hi, rfl⟩ := List.getElem_of_mem hx
  have := h i hi
  rwa [show L.getD i 0 = L[i] by simp [hi]] at this
set_option maxRecDepth 100000 in
set_option maxHeartbeats 16000000 in
theorem symC1 (b1 b2 g n c f : Nat) (l : List (Int × Int)) (L0 : List Nat) (a m b MID : Nat) (w : World) (h : OA w g L0) (hn : L0.length = n) (hx : Ix l.length L0) (hc : CmpOK l g b1 b2 w) (ham : a < m) (hmb : m < b) (hbn : b ≤ n) (h9 : n ≤ 100000) (hf : b - a ≤ f + 1) (hd1 : m - a ≠ 1) (hd2 : b - m ≠ 1) (hMID : (a + b) / 2 = MID) (hmm : MID < m)
    (hi : ∀ (L' : List Nat) (a' m' b' : Nat) (W : World), OA W g L' → L'.length = n → Ix l.length L' → CmpOK l g b1 b2 W → a' < m' → m' < b' → b' ≤ n → b' - a' ≤ f → Calls Try.prog 42 #[.slice (some ⟨g, 0, none⟩) n c, .int .i64 a', .int .i64 m', .int .i64 b', .func (.func 38) #[] #[.pointer (some ⟨b1, 0, none⟩), .pointer (some ⟨b2, 0, none⟩)]] W fun e w' => e = .returned (.tuple #[]) ∧ OA w' g (symM (pri l) f a' m' b' L') ∧ Below g W w') :
    Calls Try.prog 42 #[.slice (some ⟨g, 0, none⟩) n c, .int .i64 a, .int .i64 m, .int .i64 b, .func (.func 38) #[] #[.pointer (some ⟨b1, 0, none⟩), .pointer (some ⟨b2, 0, none⟩)]] w fun e w' => e = .returned (.tuple #[]) ∧ OA w' g (symM (pri l) (f + 1) a m b L0) ∧ Below g w w' := by
  have HO := Lib.hid h
  have HN := Lib.hid hn
  have HX := Lib.hid hx
  have HC := Lib.hid hc
  have HI := Lib.hid hi
  have hM1 : 2 * MID ≤ a + b := by omega
  have hM2 : a + b ≤ 2 * MID + 1 := by omega
  have hM3 : ((a : Int) + (b : Int)) / 2 = (MID : Int) := by omega
  obtain ⟨T, hT⟩ : ∃ T, symM (pri l) (f + 1) a m b L0 = T := ⟨_, rfl⟩
  rw [hT]
  unfold symM at hT
  rw [if_neg hd1, if_neg hd2] at hT
  simp only at hT
  obtain ⟨S, hS⟩ : ∃ S, sst (pri l) a m b L0 = S := ⟨_, rfl⟩
  have hSi := sst_in (pri l) a m b L0 ham hmb
  rw [hS, hMID] at hT hSi
  obtain ⟨E, hE⟩ : ∃ E, MID + m - S = E := ⟨_, rfl⟩
  rw [hE] at hT
  obtain ⟨L1, hL1⟩ : ∃ L1, rotc S m E L0 = L1 := ⟨_, rfl⟩
  rw [hL1] at hT
  obtain ⟨L2, hL2⟩ : ∃ L2, (if (decide (a < S) && decide (S < MID)) = true then symM (pri l) f a S MID L1 else L1) = L2 := ⟨_, rfl⟩
  rw [hL2] at hT
  unfold sst at hS
  rw [hMID, if_pos hmm] at hS
  obtain ⟨k1, k2, k3, k4⟩ := hSi
  have p1 : L1.Perm L0 := by rw [← hL1]; exact rotc_perm S m E L0 (by omega)
  have p2 : L2.Perm L0 := by
    rw [← hL2]
    split
    · rename_i hq
      simp only [Bool.and_eq_true, decide_eq_true_eq] at hq
      exact (symM_perm (pri l) f a S MID L1 hq.1 hq.2 (by rw [p1.length_eq]; omega)).trans p1
    · exact p1
  have HP1 := Lib.hid (show L1.length = n ∧ Ix l.length L1 from ⟨p1.length_eq.trans hn, ix_perm hx p1⟩)
  have HP2 := Lib.hid (show L2.length = n ∧ Ix l.length L2 from ⟨p2.length_eq.trans hn, ix_perm hx p2⟩)
  have HT := Lib.hid hT
  have HL1 := Lib.hid hL1
  have HL2 := Lib.hid hL2
  have HS := Lib.hid hS
  have HE := Lib.hid hE
  have e1 : E ≤ MID + m - S := by omega
  have e2 : MID + m - S ≤ E := by omega
  have d1 : m ≠ a + 1 := by omega
  have d2 : b ≠ m + 1 := by omega
  have c1 : ((m : Int) - (a : Int) == 1) = false := by simp; omega
  have c2 : ((b : Int) - (m : Int) == 1) = false := by simp; omega
  have c1b : ((m : Int) - (a : Int) = 1) = False := by simp; omega
  have c2b : ((b : Int) - (m : Int) = 1) = False := by simp; omega
  obtain ⟨N, hN⟩ : ∃ N, MID + m = N := ⟨_, rfl⟩
  have hN2 : (MID : Int) + (m : Int) = (N : Int) := by omega
  obtain ⟨Q, hQ⟩ : ∃ Q, N - 1 = Q := ⟨_, rfl⟩
  have hQ2 : (N : Int) - 1 = (Q : Int) := by omega
  have HQd := Lib.hid (show MID + m - 1 = Q by omega)
  have HND := Lib.hid hN
  have n1 : N ≤ MID + m := by omega
  have n2 : MID + m ≤ N := by omega
  have n3 : Q + 1 ≤ N := by omega
  have n4 : N ≤ Q + 1 := by omega
  have g0 : ((MID : Int) + (m : Int) - (b : Int)) = ((MID + m - b : Nat) : Int) := by omega
  have g1 : (N : Int) - (b : Int) = ((MID + m - b : Nat) : Int) := by omega
  have g2 : (MID : Int) < (m : Int) := by omega
  clear h hn hx hc hi hT hL1 hL2 hS hE hMID p1 p2 hd1 hd2 hN hQ d1 d2
  have heg : ∀ args w, (callFunc 38 args).run Try.prog w = .ok (.enter 38 args) w := fun _ _ => by kernel_rfl
  go_enter Try.func42, Try.ntmps42
  go_wp2_with fail
  go_loopw [20, 21] (fun iv jv wr => ∃ i j : Nat, (MID + m - b) ≤ i ∧ i ≤ j ∧ j ≤ MID ∧ iv = .int .i64 i ∧ jv = .int .i64 j ∧ Hid (srch (fun c => !lessAt (pri l) L0 (MID + m - 1 - c) c) i j = S) ∧ Hid (OA wr g L0) ∧ Hid (Below g w wr)) (fun iv jv _ => (intOf jv).toNat - (intOf iv).toNat)
  case atStart => exact ⟨(MID + m - b), MID, by omega, by omega, by omega, by first | rfl | go_num, by first | rfl | go_num, HS, HO, Lib.hid (Below.refl _ _)⟩
  case round =>
    clear HO HS
    obtain ⟨i, j, hi, hij, hj, rfl, rfl, HS, HO, HB⟩ := hrel
    by_cases hlt : i < j
    · have hr := HS.out
      rw [srch_go hlt] at hr
      have hH1 : i ≤ (i + j) / 2 := by omega
      have hH2 : (i + j) / 2 < j := by omega
      have hH3 : ((i : Int) + (j : Int)) / 2 = (((i + j) / 2 : Nat) : Int) := by omega
      obtain ⟨H, hHd⟩ : ∃ H, (i + j) / 2 = H := ⟨_, rfl⟩
      rw [hHd] at hr hH1 hH2 hH3
      obtain ⟨D, hD⟩ : ∃ D, Q - H = D := ⟨_, rfl⟩
      have hD2 : (Q : Int) - (H : Int) = (D : Int) := by omega
      have hD3 : MID + m - 1 - H = D := by rw [HQd.out]; exact hD
      have hD4 : D < n := by omega
      have ho := HO.out
      have x0 := ho.cell (i := D) (by rw [HN.out]; omega)
      have x1 := ho.cell (i := H) (by rw [HN.out]; omega)
      have hu := HX.out D (by rw [HN.out]; omega)
      have hv := HX.out H (by rw [HN.out]; omega)
      have xb := ho.lt
      have HHd := Lib.hid hHd
      have hcm := cmI_neg (pri l (L0.getD H 0)) (pri l (L0.getD D 0))
      have hr2 : (if (!decide (pri l (L0.getD H 0) < pri l (L0.getD D 0))) = true then srch (fun c => !lessAt (pri l) L0 (MID + m - 1 - c) c) (H + 1) j else srch (fun c => !lessAt (pri l) L0 (MID + m - 1 - c) c) i H) = S := by rw [← hD3]; exact hr
      rw [← hcm] at hr2
      have HCC := Lib.hid (fun (W : World) (hw : Below g w W) => HC.out W hw _ _ hu hv)
      have HDD := Lib.hid hD
      clear hr ho hu hv hcm hHd HS hD hD3
      obtain ⟨cm, hcm⟩ : ∃ z, cmI (pri l (L0.getD H 0)) (pri l (L0.getD D 0)) = z := ⟨_, rfl⟩
      rw [hcm] at hr2 HCC
      have HR2 := Lib.hid hr2
      clear hcm hr2
      generalize L0.getD D 0 = u at *
      generalize L0.getD H 0 = v at *
      have t9 : (H : Int) < (n : Int) := by omega
      have t9b : H < n := by omega
      have t10 : (D : Int) < (n : Int) := by omega
      have t11 : IntKind.i64.wrap (H : Int) = (H : Int) := IntWalk.i64_in _ (by omega)
      have t12 : IntKind.i64.wrap (D : Int) = (D : Int) := IntWalk.i64_in _ (by omega)
      have t13 : (0 : Int) ≤ (D : Int) := by omega
      have hgw : g ≤ wr.heap.size := Nat.le_of_lt xb
      go_wp2_with fail
      go_still_tail 11, (by kernel_rfl)
      change wpList _ _ _ _ _ wr.drew
      obtain ⟨w2, hw2⟩ : ∃ z, wr.drew = z := ⟨_, rfl⟩
      have b0 : Below wr.heap.size wr w2 := by rw [← hw2]; exact below_drew _ _
      rw [hw2]
      clear hw2
      go_wp2_with fail
      refine (HCC.out w2 (HB.out.trans (b0.mono hgw))).mono ?_
      rintro e w3 ⟨rfl, b3⟩
      have B3 := Lib.hid (HB.out.trans ((keep2 b3 b0).mono hgw))
      have O3 := Lib.hid (HO.out.step (keep2 b3 b0))
      clear b3 b0 x0 x1 xb hgw HCC HO HB
      have hr2 := HR2.out
      clear HR2
      by_cases hcm : cm < 0
      · rw [decide_eq_true hcm] at hr2
        have HR3 := Lib.hid (show srch (fun c => !lessAt (pri l) L0 (MID + m - 1 - c) c) i H = S from hr2)
        have hcb : decide (cm < 0) = true := decide_eq_true hcm
        clear hr2
        go_wp2
        go_roundw
        case rel => exact ⟨i, H, by omega, by omega, by omega, by first | rfl | go_num, by first | rfl | go_num, HR3, O3, B3⟩
        case measure => first | (simp [intOf]; done) | (simp [intOf]; omega)
      · rw [decide_eq_false hcm] at hr2
        have HR3 := Lib.hid (show srch (fun c => !lessAt (pri l) L0 (MID + m - 1 - c) c) (H + 1) j = S from hr2)
        have hcb : decide (cm < 0) = false := decide_eq_false hcm
        clear hr2
        go_wp2
        go_roundw
        case rel => exact ⟨H + 1, j, by omega, by omega, by omega, by first | rfl | go_num, by first | rfl | go_num, HR3, O3, B3⟩
        case measure => first | (simp [intOf]; done) | (simp [intOf]; omega)
    · have hr := HS.out
      rw [srch_end hlt] at hr
      subst hr
      clear HS
      obtain rfl : i = j := by omega
      have hE2 : (N : Int) - (i : Int) = (E : Int) := by omega
      have HO0 := HO
      have HB0 := HB
      clear HO HB
      by_cases hp0 : i < m
      · by_cases hq0 : m < E
        · have u0 : (i : Int) < (m : Int) := by omega
          have u0b : decide ((i : Int) < (m : Int)) = true := decide_eq_true u0
          have v0 : (m : Int) < (E : Int) := by omega
          have v0b : decide ((m : Int) < (E : Int)) = true := decide_eq_true v0
          have hz : rotc i m E L0 = L1 := HL1.out
          unfold rotc at hz
          rw [if_pos (by simp; omega)] at hz
          have HZ0 := Lib.hid hz
          clear hz
          go_wp2_with fail
          refine (rota_any b1 b2 g n c L0 i m E _ rfl _ HO0.out HN.out (by omega) (by omega) (by omega) h9).mono ?_
          rintro e w5 ⟨rfl, o, bb⟩
          rw [HZ0.out] at o
          have HO1 := Lib.hid o
          have HB1 := Lib.hid (HB0.out.trans bb)
          clear o bb u0 u0b v0 v0b HO0 HB0
          by_cases hp1 : a < i
          · by_cases hq1 : i < MID
            · have u1 : (a : Int) < (i : Int) := by omega
              have u1b : decide ((a : Int) < (i : Int)) = true := decide_eq_true u1
              have v1 : (i : Int) < (MID : Int) := by omega
              have v1b : decide ((i : Int) < (MID : Int)) = true := decide_eq_true v1
              have hz := HL2.out
              rw [if_pos (by simp; omega)] at hz
              have HZ1 := Lib.hid hz
              clear hz
              go_wp2_with fail
              refine (HI.out L1 a i MID _ HO1.out HP1.out.1 HP1.out.2 (HC.out.step HB1.out) (by omega) (by omega) (by omega) (by omega)).mono ?_
              rintro e w6 ⟨rfl, o, bb⟩
              rw [HZ1.out] at o
              have HO2 := Lib.hid o
              have HB2 := Lib.hid (HB1.out.trans bb)
              clear o bb u1 u1b v1 v1b HO1 HB1
              by_cases hp2 : MID < E
              · by_cases hq2 : E < b
                · have u2 : (MID : Int) < (E : Int) := by omega
                  have u2b : decide ((MID : Int) < (E : Int)) = true := decide_eq_true u2
                  have v2 : (E : Int) < (b : Int) := by omega
                  have v2b : decide ((E : Int) < (b : Int)) = true := decide_eq_true v2
                  have hz := HT.out
                  rw [if_pos (by simp; omega)] at hz
                  have HZ2 := Lib.hid hz
                  clear hz
                  go_wp2_with fail
                  refine (HI.out L2 MID E b _ HO2.out HP2.out.1 HP2.out.2 (HC.out.step HB2.out) (by omega) (by omega) (by omega) (by omega)).mono ?_
                  rintro e w7 ⟨rfl, o, bb⟩
                  rw [HZ2.out] at o
                  have HO3 := Lib.hid o
                  have HB3 := Lib.hid (HB2.out.trans bb)
                  clear o bb u2 u2b v2 v2b HO2 HB2
                  go_wp2_with fail
                  go_end0
                  exact ⟨rfl, HO3.out, HB3.out⟩
                · have u2 : (MID : Int) < (E : Int) := by omega
                  have u2b : decide ((MID : Int) < (E : Int)) = true := decide_eq_true u2
                  have v2 : ¬ ((E : Int) < (b : Int)) := by omega
                  have v2b : decide ((E : Int) < (b : Int)) = false := decide_eq_false v2
                  have hz := HT.out
                  rw [if_neg (by simp; omega)] at hz
                  have HO3 : Hid (OA w6 g T) := Lib.hid (by rw [← hz]; exact HO2.out)
                  have HB3 := HB2
                  clear hz HO2 HB2
                  go_wp2_with fail
                  go_end0
                  exact ⟨rfl, HO3.out, HB3.out⟩
              · exfalso; omega
            · exfalso; omega
          · have u1 : ¬ ((a : Int) < (i : Int)) := by omega
            have u1b : decide ((a : Int) < (i : Int)) = false := decide_eq_false u1
            have hz := HL2.out
            rw [if_neg (by simp; omega)] at hz
            have HO2 : Hid (OA w5 g L2) := Lib.hid (by rw [← hz]; exact HO1.out)
            have HB2 := HB1
            clear hz HO1 HB1
            by_cases hp2 : MID < E
            · by_cases hq2 : E < b
              · exfalso; omega
              · have u2 : (MID : Int) < (E : Int) := by omega
                have u2b : decide ((MID : Int) < (E : Int)) = true := decide_eq_true u2
                have v2 : ¬ ((E : Int) < (b : Int)) := by omega
                have v2b : decide ((E : Int) < (b : Int)) = false := decide_eq_false v2
                have hz := HT.out
                rw [if_neg (by simp; omega)] at hz
                have HO3 : Hid (OA w5 g T) := Lib.hid (by rw [← hz]; exact HO2.out)
                have HB3 := HB2
                clear hz HO2 HB2
                go_wp2_with fail
                go_end0
                exact ⟨rfl, HO3.out, HB3.out⟩
            · exfalso; omega
        · have u0 : (i : Int) < (m : Int) := by omega
          have u0b : decide ((i : Int) < (m : Int)) = true := decide_eq_true u0
          have v0 : ¬ ((m : Int) < (E : Int)) := by omega
          have v0b : decide ((m : Int) < (E : Int)) = false := decide_eq_false v0
          have hz : rotc i m E L0 = L1 := HL1.out
          unfold rotc at hz
          rw [if_neg (by simp; omega)] at hz
          have HO1 : Hid (OA wr g L1) := Lib.hid (by rw [← hz]; exact HO0.out)
          have HB1 := HB0
          clear hz HO0 HB0
          by_cases hp1 : a < i
          · by_cases hq1 : i < MID
            · exfalso; omega
            · have u1 : (a : Int) < (i : Int) := by omega
              have u1b : decide ((a : Int) < (i : Int)) = true := decide_eq_true u1
              have v1 : ¬ ((i : Int) < (MID : Int)) := by omega
              have v1b : decide ((i : Int) < (MID : Int)) = false := decide_eq_false v1
              have hz := HL2.out
              rw [if_neg (by simp; omega)] at hz
              have HO2 : Hid (OA wr g L2) := Lib.hid (by rw [← hz]; exact HO1.out)
              have HB2 := HB1
              clear hz HO1 HB1
              by_cases hp2 : MID < E
              · by_cases hq2 : E < b
                · have u2 : (MID : Int) < (E : Int) := by omega
                  have u2b : decide ((MID : Int) < (E : Int)) = true := decide_eq_true u2
                  have v2 : (E : Int) < (b : Int) := by omega
                  have v2b : decide ((E : Int) < (b : Int)) = true := decide_eq_true v2
                  have hz := HT.out
                  rw [if_pos (by simp; omega)] at hz
                  have HZ2 := Lib.hid hz
                  clear hz
                  go_wp2_with fail
                  refine (HI.out L2 MID E b _ HO2.out HP2.out.1 HP2.out.2 (HC.out.step HB2.out) (by omega) (by omega) (by omega) (by omega)).mono ?_
                  rintro e w7 ⟨rfl, o, bb⟩
                  rw [HZ2.out] at o
                  have HO3 := Lib.hid o
                  have HB3 := Lib.hid (HB2.out.trans bb)
                  clear o bb u2 u2b v2 v2b HO2 HB2
                  go_wp2_with fail
                  go_end0
                  exact ⟨rfl, HO3.out, HB3.out⟩
                · exfalso; omega
              · exfalso; omega
          · exfalso; omega
      · exfalso; omega
set_option maxRecDepth 100000 in
set_option maxHeartbeats 16000000 in
theorem symC2 (b1 b2 g n c f : Nat) (l : List (Int × Int)) (L0 : List Nat) (a m b MID : Nat) (w : World) (h : OA w g L0) (hn : L0.length = n) (hx : Ix l.length L0) (hc : CmpOK l g b1 b2 w) (ham : a < m) (hmb : m < b) (hbn : b ≤ n) (h9 : n ≤ 100000) (hf : b - a ≤ f + 1) (hd1 : m - a ≠ 1) (hd2 : b - m ≠ 1) (hMID : (a + b) / 2 = MID) (hmm : ¬ MID < m)
    (hi : ∀ (L' : List Nat) (a' m' b' : Nat) (W : World), OA W g L' → L'.length = n → Ix l.length L' → CmpOK l g b1 b2 W → a' < m' → m' < b' → b' ≤ n → b' - a' ≤ f → Calls Try.prog 42 #[.slice (some ⟨g, 0, none⟩) n c, .int .i64 a', .int .i64 m', .int .i64 b', .func (.func 38) #[] #[.pointer (some ⟨b1, 0, none⟩), .pointer (some ⟨b2, 0, none⟩)]] W fun e w' => e = .returned (.tuple #[]) ∧ OA w' g (symM (pri l) f a' m' b' L') ∧ Below g W w') :
    Calls Try.prog 42 #[.slice (some ⟨g, 0, none⟩) n c, .int .i64 a, .int .i64 m, .int .i64 b, .func (.func 38) #[] #[.pointer (some ⟨b1, 0, none⟩), .pointer (some ⟨b2, 0, none⟩)]] w fun e w' => e = .returned (.tuple #[]) ∧ OA w' g (symM (pri l) (f + 1) a m b L0) ∧ Below g w w' := by
  have HO := Lib.hid h
  have HN := Lib.hid hn
  have HX := Lib.hid hx
  have HC := Lib.hid hc
  have HI := Lib.hid hi
  have hM1 : 2 * MID ≤ a + b := by omega
  have hM2 : a + b ≤ 2 * MID + 1 := by omega
  have hM3 : ((a : Int) + (b : Int)) / 2 = (MID : Int) := by omega
  obtain ⟨T, hT⟩ : ∃ T, symM (pri l) (f + 1) a m b L0 = T := ⟨_, rfl⟩
  rw [hT]
  unfold symM at hT
  rw [if_neg hd1, if_neg hd2] at hT
  simp only at hT
  obtain ⟨S, hS⟩ : ∃ S, sst (pri l) a m b L0 = S := ⟨_, rfl⟩
  have hSi := sst_in (pri l) a m b L0 ham hmb
  rw [hS, hMID] at hT hSi
  obtain ⟨E, hE⟩ : ∃ E, MID + m - S = E := ⟨_, rfl⟩
  rw [hE] at hT
  obtain ⟨L1, hL1⟩ : ∃ L1, rotc S m E L0 = L1 := ⟨_, rfl⟩
  rw [hL1] at hT
  obtain ⟨L2, hL2⟩ : ∃ L2, (if (decide (a < S) && decide (S < MID)) = true then symM (pri l) f a S MID L1 else L1) = L2 := ⟨_, rfl⟩
  rw [hL2] at hT
  unfold sst at hS
  rw [hMID, if_neg hmm] at hS
  obtain ⟨k1, k2, k3, k4⟩ := hSi
  have p1 : L1.Perm L0 := by rw [← hL1]; exact rotc_perm S m E L0 (by omega)
  have p2 : L2.Perm L0 := by
    rw [← hL2]
    split
    · rename_i hq
      simp only [Bool.and_eq_true, decide_eq_true_eq] at hq
      exact (symM_perm (pri l) f a S MID L1 hq.1 hq.2 (by rw [p1.length_eq]; omega)).trans p1
    · exact p1
  have HP1 := Lib.hid (show L1.length = n ∧ Ix l.length L1 from ⟨p1.length_eq.trans hn, ix_perm hx p1⟩)
  have HP2 := Lib.hid (show L2.length = n ∧ Ix l.length L2 from ⟨p2.length_eq.trans hn, ix_perm hx p2⟩)
  have HT := Lib.hid hT
  have HL1 := Lib.hid hL1
  have HL2 := Lib.hid hL2
  have HS := Lib.hid hS
  have HE := Lib.hid hE
  have e1 : E ≤ MID + m - S := by omega
  have e2 : MID + m - S ≤ E := by omega
  have d1 : m ≠ a + 1 := by omega
  have d2 : b ≠ m + 1 := by omega
  have c1 : ((m : Int) - (a : Int) == 1) = false := by simp; omega
  have c2 : ((b : Int) - (m : Int) == 1) = false := by simp; omega
  have c1b : ((m : Int) - (a : Int) = 1) = False := by simp; omega
  have c2b : ((b : Int) - (m : Int) = 1) = False := by simp; omega
  obtain ⟨N, hN⟩ : ∃ N, MID + m = N := ⟨_, rfl⟩
  have hN2 : (MID : Int) + (m : Int) = (N : Int) := by omega
  obtain ⟨Q, hQ⟩ : ∃ Q, N - 1 = Q := ⟨_, rfl⟩
  have hQ2 : (N : Int) - 1 = (Q : Int) := by omega
  have HQd := Lib.hid (show MID + m - 1 = Q by omega)
  have HND := Lib.hid hN
  have n1 : N ≤ MID + m := by omega
  have n2 : MID + m ≤ N := by omega
  have n3 : Q + 1 ≤ N := by omega
  have n4 : N ≤ Q + 1 := by omega
  have g2 : ¬ (MID : Int) < (m : Int) := by omega
  have g3 : decide ((MID : Int) < (m : Int)) = false := decide_eq_false g2
  clear h hn hx hc hi hT hL1 hL2 hS hE hMID p1 p2 hd1 hd2 hN hQ d1 d2
  have heg : ∀ args w, (callFunc 38 args).run Try.prog w = .ok (.enter 38 args) w := fun _ _ => by kernel_rfl
  go_enter Try.func42, Try.ntmps42
  go_wp2_with fail
  go_loopw [20, 21] (fun iv jv wr => ∃ i j : Nat, a ≤ i ∧ i ≤ j ∧ j ≤ m ∧ iv = .int .i64 i ∧ jv = .int .i64 j ∧ Hid (srch (fun c => !lessAt (pri l) L0 (MID + m - 1 - c) c) i j = S) ∧ Hid (OA wr g L0) ∧ Hid (Below g w wr)) (fun iv jv _ => (intOf jv).toNat - (intOf iv).toNat)
  case atStart => exact ⟨a, m, by omega, by omega, by omega, by first | rfl | go_num, by first | rfl | go_num, HS, HO, Lib.hid (Below.refl _ _)⟩
  case round =>
    clear HO HS
    obtain ⟨i, j, hi, hij, hj, rfl, rfl, HS, HO, HB⟩ := hrel
    by_cases hlt : i < j
    · have hr := HS.out
      rw [srch_go hlt] at hr
      have hH1 : i ≤ (i + j) / 2 := by omega
      have hH2 : (i + j) / 2 < j := by omega
      have hH3 : ((i : Int) + (j : Int)) / 2 = (((i + j) / 2 : Nat) : Int) := by omega
      obtain ⟨H, hHd⟩ : ∃ H, (i + j) / 2 = H := ⟨_, rfl⟩
      rw [hHd] at hr hH1 hH2 hH3
      obtain ⟨D, hD⟩ : ∃ D, Q - H = D := ⟨_, rfl⟩
      have hD2 : (Q : Int) - (H : Int) = (D : Int) := by omega
      have hD3 : MID + m - 1 - H = D := by rw [HQd.out]; exact hD
      have hD4 : D < n := by omega
      have ho := HO.out
      have x0 := ho.cell (i := D) (by rw [HN.out]; omega)
      have x1 := ho.cell (i := H) (by rw [HN.out]; omega)
      have hu := HX.out D (by rw [HN.out]; omega)
      have hv := HX.out H (by rw [HN.out]; omega)
      have xb := ho.lt
      have HHd := Lib.hid hHd
      have hcm := cmI_neg (pri l (L0.getD H 0)) (pri l (L0.getD D 0))
      have hr2 : (if (!decide (pri l (L0.getD H 0) < pri l (L0.getD D 0))) = true then srch (fun c => !lessAt (pri l) L0 (MID + m - 1 - c) c) (H + 1) j else srch (fun c => !lessAt (pri l) L0 (MID + m - 1 - c) c) i H) = S := by rw [← hD3]; exact hr
      rw [← hcm] at hr2
      have HCC := Lib.hid (fun (W : World) (hw : Below g w W) => HC.out W hw _ _ hu hv)
      have HDD := Lib.hid hD
      clear hr ho hu hv hcm hHd HS hD hD3
      obtain ⟨cm, hcm⟩ : ∃ z, cmI (pri l (L0.getD H 0)) (pri l (L0.getD D 0)) = z := ⟨_, rfl⟩
      rw [hcm] at hr2 HCC
      have HR2 := Lib.hid hr2
      clear hcm hr2
      generalize L0.getD D 0 = u at *
      generalize L0.getD H 0 = v at *
      have t9 : (H : Int) < (n : Int) := by omega
      have t9b : H < n := by omega
      have t10 : (D : Int) < (n : Int) := by omega
      have t11 : IntKind.i64.wrap (H : Int) = (H : Int) := IntWalk.i64_in _ (by omega)
      have t12 : IntKind.i64.wrap (D : Int) = (D : Int) := IntWalk.i64_in _ (by omega)
      have t13 : (0 : Int) ≤ (D : Int) := by omega
      have hgw : g ≤ wr.heap.size := Nat.le_of_lt xb
      go_wp2_with fail
      go_still_tail 11, (by kernel_rfl)
      change wpList _ _ _ _ _ wr.drew
      obtain ⟨w2, hw2⟩ : ∃ z, wr.drew = z := ⟨_, rfl⟩
      have b0 : Below wr.heap.size wr w2 := by rw [← hw2]; exact below_drew _ _
      rw [hw2]
      clear hw2
      go_wp2_with fail
      refine (HCC.out w2 (HB.out.trans (b0.mono hgw))).mono ?_
      rintro e w3 ⟨rfl, b3⟩
      have B3 := Lib.hid (HB.out.trans ((keep2 b3 b0).mono hgw))
      have O3 := Lib.hid (HO.out.step (keep2 b3 b0))
      clear b3 b0 x0 x1 xb hgw HCC HO HB
      have hr2 := HR2.out
      clear HR2
      by_cases hcm : cm < 0
      · rw [decide_eq_true hcm] at hr2
        have HR3 := Lib.hid (show srch (fun c => !lessAt (pri l) L0 (MID + m - 1 - c) c) i H = S from hr2)
        have hcb : decide (cm < 0) = true := decide_eq_true hcm
        clear hr2
        go_wp2
        go_roundw
        case rel => exact ⟨i, H, by omega, by omega, by omega, by first | rfl | go_num, by first | rfl | go_num, HR3, O3, B3⟩
        case measure => first | (simp [intOf]; done) | (simp [intOf]; omega)
      · rw [decide_eq_false hcm] at hr2
        have HR3 := Lib.hid (show srch (fun c => !lessAt (pri l) L0 (MID + m - 1 - c) c) (H + 1) j = S from hr2)
        have hcb : decide (cm < 0) = false := decide_eq_false hcm
        clear hr2
        go_wp2
        go_roundw
        case rel => exact ⟨H + 1, j, by omega, by omega, by omega, by first | rfl | go_num, by first | rfl | go_num, HR3, O3, B3⟩
        case measure => first | (simp [intOf]; done) | (simp [intOf]; omega)
    · have hr := HS.out
      rw [srch_end hlt] at hr
      subst hr
      clear HS
      obtain rfl : i = j := by omega
      have hE2 : (N : Int) - (i : Int) = (E : Int) := by omega
      have HO0 := HO
      have HB0 := HB
      clear HO HB
      by_cases hp0 : i < m
      · by_cases hq0 : m < E
        · have u0 : (i : Int) < (m : Int) := by omega
          have u0b : decide ((i : Int) < (m : Int)) = true := decide_eq_true u0
          have v0 : (m : Int) < (E : Int) := by omega
          have v0b : decide ((m : Int) < (E : Int)) = true := decide_eq_true v0
          have hz : rotc i m E L0 = L1 := HL1.out
          unfold rotc at hz
          rw [if_pos (by simp; omega)] at hz
          have HZ0 := Lib.hid hz
          clear hz
          go_wp2_with fail
          refine (rota_any b1 b2 g n c L0 i m E _ rfl _ HO0.out HN.out (by omega) (by omega) (by omega) h9).mono ?_
          rintro e w5 ⟨rfl, o, bb⟩
          rw [HZ0.out] at o
          have HO1 := Lib.hid o
          have HB1 := Lib.hid (HB0.out.trans bb)
          clear o bb u0 u0b v0 v0b HO0 HB0
          by_cases hp1 : a < i
          · by_cases hq1 : i < MID
            · have u1 : (a : Int) < (i : Int) := by omega
              have u1b : decide ((a : Int) < (i : Int)) = true := decide_eq_true u1
              have v1 : (i : Int) < (MID : Int) := by omega
              have v1b : decide ((i : Int) < (MID : Int)) = true := decide_eq_true v1
              have hz := HL2.out
              rw [if_pos (by simp; omega)] at hz
              have HZ1 := Lib.hid hz
              clear hz
              go_wp2_with fail
              refine (HI.out L1 a i MID _ HO1.out HP1.out.1 HP1.out.2 (HC.out.step HB1.out) (by omega) (by omega) (by omega) (by omega)).mono ?_
              rintro e w6 ⟨rfl, o, bb⟩
              rw [HZ1.out] at o
              have HO2 := Lib.hid o
              have HB2 := Lib.hid (HB1.out.trans bb)
              clear o bb u1 u1b v1 v1b HO1 HB1
              by_cases hp2 : MID < E
              · by_cases hq2 : E < b
                · have u2 : (MID : Int) < (E : Int) := by omega
                  have u2b : decide ((MID : Int) < (E : Int)) = true := decide_eq_true u2
                  have v2 : (E : Int) < (b : Int) := by omega
                  have v2b : decide ((E : Int) < (b : Int)) = true := decide_eq_true v2
                  have hz := HT.out
                  rw [if_pos (by simp; omega)] at hz
                  have HZ2 := Lib.hid hz
                  clear hz
                  go_wp2_with fail
                  refine (HI.out L2 MID E b _ HO2.out HP2.out.1 HP2.out.2 (HC.out.step HB2.out) (by omega) (by omega) (by omega) (by omega)).mono ?_
                  rintro e w7 ⟨rfl, o, bb⟩
                  rw [HZ2.out] at o
                  have HO3 := Lib.hid o
                  have HB3 := Lib.hid (HB2.out.trans bb)
                  clear o bb u2 u2b v2 v2b HO2 HB2
                  go_wp2_with fail
                  go_end0
                  exact ⟨rfl, HO3.out, HB3.out⟩
                · exfalso; omega
              · exfalso; omega
            · exfalso; omega
          · have u1 : ¬ ((a : Int) < (i : Int)) := by omega
            have u1b : decide ((a : Int) < (i : Int)) = false := decide_eq_false u1
            have hz := HL2.out
            rw [if_neg (by simp; omega)] at hz
            have HO2 : Hid (OA w5 g L2) := Lib.hid (by rw [← hz]; exact HO1.out)
            have HB2 := HB1
            clear hz HO1 HB1
            by_cases hp2 : MID < E
            · by_cases hq2 : E < b
              · have u2 : (MID : Int) < (E : Int) := by omega
                have u2b : decide ((MID : Int) < (E : Int)) = true := decide_eq_true u2
                have v2 : (E : Int) < (b : Int) := by omega
                have v2b : decide ((E : Int) < (b : Int)) = true := decide_eq_true v2
                have hz := HT.out
                rw [if_pos (by simp; omega)] at hz
                have HZ2 := Lib.hid hz
                clear hz
                go_wp2_with fail
                refine (HI.out L2 MID E b _ HO2.out HP2.out.1 HP2.out.2 (HC.out.step HB2.out) (by omega) (by omega) (by omega) (by omega)).mono ?_
                rintro e w7 ⟨rfl, o, bb⟩
                rw [HZ2.out] at o
                have HO3 := Lib.hid o
                have HB3 := Lib.hid (HB2.out.trans bb)
                clear o bb u2 u2b v2 v2b HO2 HB2
                go_wp2_with fail
                go_end0
                exact ⟨rfl, HO3.out, HB3.out⟩
              · have u2 : (MID : Int) < (E : Int) := by omega
                have u2b : decide ((MID : Int) < (E : Int)) = true := decide_eq_true u2
                have v2 : ¬ ((E : Int) < (b : Int)) := by omega
                have v2b : decide ((E : Int) < (b : Int)) = false := decide_eq_false v2
                have hz := HT.out
                rw [if_neg (by simp; omega)] at hz
                have HO3 : Hid (OA w5 g T) := Lib.hid (by rw [← hz]; exact HO2.out)
                have HB3 := HB2
                clear hz HO2 HB2
                go_wp2_with fail
                go_end0
                exact ⟨rfl, HO3.out, HB3.out⟩
            · exfalso; omega
        · exfalso; omega
      · have u0 : ¬ ((i : Int) < (m : Int)) := by omega
        have u0b : decide ((i : Int) < (m : Int)) = false := decide_eq_false u0
        have hz : rotc i m E L0 = L1 := HL1.out
        unfold rotc at hz
        rw [if_neg (by simp; omega)] at hz
        have HO1 : Hid (OA wr g L1) := Lib.hid (by rw [← hz]; exact HO0.out)
        have HB1 := HB0
        clear hz HO0 HB0
        by_cases hp1 : a < i
        · by_cases hq1 : i < MID
          · have u1 : (a : Int) < (i : Int) := by omega
            have u1b : decide ((a : Int) < (i : Int)) = true := decide_eq_true u1
            have v1 : (i : Int) < (MID : Int) := by omega
            have v1b : decide ((i : Int) < (MID : Int)) = true := decide_eq_true v1
            have hz := HL2.out
            rw [if_pos (by simp; omega)] at hz
            have HZ1 := Lib.hid hz
            clear hz
            go_wp2_with fail
            refine (HI.out L1 a i MID _ HO1.out HP1.out.1 HP1.out.2 (HC.out.step HB1.out) (by omega) (by omega) (by omega) (by omega)).mono ?_
            rintro e w6 ⟨rfl, o, bb⟩
            rw [HZ1.out] at o
            have HO2 := Lib.hid o
            have HB2 := Lib.hid (HB1.out.trans bb)
            clear o bb u1 u1b v1 v1b HO1 HB1
            by_cases hp2 : MID < E
            · by_cases hq2 : E < b
              · exfalso; omega
              · exfalso; omega
            · have u2 : ¬ ((MID : Int) < (E : Int)) := by omega
              have u2b : decide ((MID : Int) < (E : Int)) = false := decide_eq_false u2
              have hz := HT.out
              rw [if_neg (by simp; omega)] at hz
              have HO3 : Hid (OA w6 g T) := Lib.hid (by rw [← hz]; exact HO2.out)
              have HB3 := HB2
              clear hz HO2 HB2
              go_wp2_with fail
              go_end0
              exact ⟨rfl, HO3.out, HB3.out⟩
          · have u1 : (a : Int) < (i : Int) := by omega
            have u1b : decide ((a : Int) < (i : Int)) = true := decide_eq_true u1
            have v1 : ¬ ((i : Int) < (MID : Int)) := by omega
            have v1b : decide ((i : Int) < (MID : Int)) = false := decide_eq_false v1
            have hz := HL2.out
            rw [if_neg (by simp; omega)] at hz
            have HO2 : Hid (OA wr g L2) := Lib.hid (by rw [← hz]; exact HO1.out)
            have HB2 := HB1
            clear hz HO1 HB1
            by_cases hp2 : MID < E
            · by_cases hq2 : E < b
              · exfalso; omega
              · exfalso; omega
            · have u2 : ¬ ((MID : Int) < (E : Int)) := by omega
              have u2b : decide ((MID : Int) < (E : Int)) = false := decide_eq_false u2
              have hz := HT.out
              rw [if_neg (by simp; omega)] at hz
              have HO3 : Hid (OA wr g T) := Lib.hid (by rw [← hz]; exact HO2.out)
              have HB3 := HB2
              clear hz HO2 HB2
              go_wp2_with fail
              go_end0
              exact ⟨rfl, HO3.out, HB3.out⟩
        · exfalso; omega
theorem sym_any (b1 b2 g n c : Nat) (l : List (Int × Int)) (h9 : n ≤ 100000) : ∀ (f : Nat) (L : List Nat) (a m b : Nat) (w : World), OA w g L → L.length = n → Ix l.length L → CmpOK l g b1 b2 w → a < m → m < b → b ≤ n → b - a ≤ f →
    Calls Try.prog 42 #[.slice (some ⟨g, 0, none⟩) n c, .int .i64 a, .int .i64 m, .int .i64 b, .func (.func 38) #[] #[.pointer (some ⟨b1, 0, none⟩), .pointer (some ⟨b2, 0, none⟩)]] w fun e w' => e = .returned (.tuple #[]) ∧ OA w' g (symM (pri l) f a m b L) ∧ Below g w w'
  | 0, L, a, m, b, w, h, hn, hx, hc, h1, h2, h3, hf => by omega
  | f + 1, L, a, m, b, w, h, hn, hx, hc, h1, h2, h3, hf => by
    by_cases e1 : m - a = 1
    · have := symA b1 b2 g n c l L a m b w h hn hx hc (by omega) h2 h3 h9
      unfold symM
      rw [if_pos e1]
      exact this
    · by_cases e2 : b - m = 1
      · have := symB b1 b2 g n c l L a m b w h hn hx hc (by omega) (by omega) (by omega) h3 h9
        unfold symM
        rw [if_neg e1, if_pos e2]
        exact this
      · have hi := fun L' a' m' b' W => sym_any b1 b2 g n c l h9 f L' a' m' b' W
        by_cases hm : (a + b) / 2 < m
        · exact symC1 b1 b2 g n c f l L a m b _ w h hn hx hc h1 h2 h3 h9 hf e1 e2 rfl hm hi
        · exact symC2 b1 b2 g n c f l L a m b _ w h hn hx hc h1 h2 h3 h9 hf e1 e2 rfl hm hi
end Go.Proofs.Ytpablikcidlkaaa
