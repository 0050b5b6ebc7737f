/- Law FrameOnce, the walk. -/
import Derived.Test.YtebeaekiaikgmaaOa
namespace Go.Proofs.Ytebeaekiaikgmaa
open Go.RowKit

theorem in_q {v u : Value} {l : List Int} {o : List Bool} {n : Int} {r : Bool} (hr : inB l o n = r) {w : World} (k : Nat) (h : IntsAt w v l) (h' : BosAt w u o) : Calls Try.prog 31 #[v, u, .int .i64 n] (w.drewN k) fun e w' => e = .returned (.bool r) ∧ w' = w.drewN k :=
  (in_any v u l o n _ (h.step (below_drewN' _ _ _)) (h'.step (below_drewN' _ _ _))).mono fun _ _ h => ⟨by rw [h.1, hr], h.2.symm⟩
set_option maxRecDepth 100000 in
set_option maxHeartbeats 8000000 in
theorem on_long (v : Value) (l : List Int) (w : World) (h : IntsAt w v l) (hcap : ∀ a n c, v = .slice a n c → n ≤ c) (h9 : 60 < l.length) : Calls Try.prog 8 #[v] w fun e w' => e = .returned (.bool true) ∧ Below w.heap.size w w' := by
  have HI0 := Lib.hid h
  obtain ⟨sa, sc, rfl, hm, -⟩ := h
  unfold maxLen at hm
  have HCAP := Lib.hid (hcap _ _ _ rfl)
  clear hcap
  replace h9 := Lib.hid h9
  have HB0 := Lib.hid (Below.refl w.heap.size w)
  go_enter Try.func8, Try.ntmps8
  go_wp2_with fail
  refine (head_any _).mono ?_
  rintro e u1 ⟨rfl, b1⟩
  have FI_1 := Lib.hid (HI0.out.step b1)
  clear HI0
  have HB2 := Lib.hid (keep2 b1 HB0.out)
  clear HB0 b1
  have g1 : decide ((l.length : Int) > 60) = true := by simp; have := h9.out; omega
  have g1b : decide ((60 : Int) < l.length) = true := by simp; have := h9.out; omega
  go_wp2
  go_ret
  exact ⟨rfl, HB2.out⟩
set_option maxRecDepth 100000 in
set_option maxHeartbeats 8000000 in
theorem on_main (v : Value) (l : List Int) (w : World) (h : IntsAt w v l) (hcap : ∀ a n c, v = .slice a n c → n ≤ c) (h9 : l.length ≤ 60) : Calls Try.prog 8 #[v] w fun e w' => e = .returned (.bool true) ∧ Below w.heap.size w w' := by
  have HI0 := Lib.hid h
  obtain ⟨sa, sc, rfl, hm, -⟩ := h
  unfold maxLen at hm
  have HCAP := Lib.hid (hcap _ _ _ rfl)
  clear hcap
  replace h9 := Lib.hid h9
  have HB0 := Lib.hid (Below.refl w.heap.size w)
  go_enter Try.func8, Try.ntmps8
  go_wp2_with fail
  refine (head_any _).mono ?_
  rintro e u1 ⟨rfl, b1⟩
  have FI_1 := Lib.hid (HI0.out.step b1)
  clear HI0
  have HB2 := Lib.hid (keep2 b1 HB0.out)
  clear HB0 b1
  have g1 : decide ((l.length : Int) > 60) = false := by simp; have := h9.out; omega
  have g1b : decide ((60 : Int) < l.length) = false := by simp; have := h9.out; omega
  go_wp2_with fail
  clear g1 g1b
  refine (accepted_any _ l _ FI_1.out (by have := h9.out; omega)).mono ?_
  rintro e u2 ⟨b, off, c, ou, rfl, hq, ho, b2⟩
  have FI_3 := Lib.hid (FI_1.out.step b2)
  clear FI_1
  have HB4 := Lib.hid (keep2 b2 HB2.out)
  clear HB2 b2
  have FQ_5 := Lib.hid (hq)
  have FO_6 := Lib.hid (ho)
  obtain ⟨oa, oc, rfl, hmo, -⟩ := ho
  rw [okL_len] at hmo
  rw [okL_len] at FO_6 ⊢
  unfold maxLen at hmo
  have HMM := Lib.hid hmo
  clear hmo hq
  obtain ⟨T, hT⟩ : ∃ z, (stT l l.length).1 = z := ⟨_, rfl⟩
  rw [hT]
  have HT := Lib.hid hT
  clear hT
  go_wp2_with fail
  have FI_7 := Lib.hid (FI_3.out.step (al u2 (.cells #[.int .i64 T, .slice (some ⟨b, off, none⟩) 16 c] 28)))
  clear FI_3
  have FQ_8 := Lib.hid (FQ_5.out.step (al u2 (.cells #[.int .i64 T, .slice (some ⟨b, off, none⟩) 16 c] 28)))
  clear FQ_5
  have FO_9 := Lib.hid (FO_6.out.step (al u2 (.cells #[.int .i64 T, .slice (some ⟨b, off, none⟩) 16 c] 28)))
  clear FO_6
  have FC_10 := Lib.hid (Cs.new u2 (u2.heap.size) #[.int .i64 T, .slice (some ⟨b, off, none⟩) 16 c] 28 (by simp))
  have HB11 : Hid (Below w.heap.size w (u2.alloc (.cells #[.int .i64 T, .slice (some ⟨b, off, none⟩) 16 c] 28))) := HB4.out.alloc HB4.out.size _
  clear HB4
  obtain ⟨WA, hWA⟩ : ∃ z, (u2.alloc (.cells #[.int .i64 T, .slice (some ⟨b, off, none⟩) 16 c] 28)) = z := ⟨_, rfl⟩
  rw [hWA] at FI_7 FQ_8 FO_9 FC_10 HB11 ⊢
  clear hWA
  go_loopw [6, 7] (fun tv iv wr => ∃ k n : Nat, k ≤ l.length ∧ tv = .int .i64 (stT l k).1 ∧ iv = .int .i64 k ∧ wr = (WA).drewN n) (fun _ iv _ => l.length - (intOf iv).toNat)
  case atStart => exact ⟨0, 0, by omega, rfl, rfl, rfl⟩
  case round =>
    obtain ⟨k, n, hk, rfl, rfl, rfl⟩ := hrel
    have HLE := Lib.hid hk
    have hk9 : k ≤ 60 := Nat.le_trans hk h9.out
    have hkw : wrap64 ((k : Int) + 1) = k + 1 := IntWalk.wrap64_in _ (by omega)
    obtain ⟨t, ht⟩ : ∃ z, (stT l k).1 = z := ⟨_, rfl⟩
    by_cases hlt : k < l.length
    · have HLT := Lib.hid hlt
      have hwf := st_wf l k
      rw [ht] at hwf ⊢
      have HTE := Lib.hid ht
      have ht1 : -1 ≤ t := hwf.2.1
      have ht2 : t ≤ 1000000 := hwf.2.2.1
      have htw : wrap64 (t - 16) = t - 16 := IntWalk.wrap64_in _ (by omega)
      have htw2 : wrap64 (t + -16) = t - 16 := by rw [show t + -16 = t - 16 by omega]; exact htw
      clear ht hwf
      have t1 : (k : Int) < l.length := by omega
      have t2 : decide ((k : Int) < l.length) = true := by simp; omega
      have t3 : (0 : Int) ≤ k := by omega
      have t4 : (k : Int) ≤ l.length := by omega
      obtain ⟨wq, hwq⟩ : ∃ wq, (WA).drewN n = wq := ⟨_, rfl⟩
      have HIQ : Hid (IntsAt wq (.slice sa l.length sc) l) := Lib.hid (by rw [← hwq]; exact FI_7.out.step (below_drewN' _ _ _))
      have HOQ : Hid (BosAt wq (.slice oa l.length oc) (okL l l.length)) := Lib.hid (by rw [← hwq]; exact FO_9.out.step (below_drewN' _ _ _))
      rw [hwq]
      have HW := Lib.hid hwq
      clear hwq
      obtain ⟨a2, cap2, hva, -, hcs⟩ := HIQ.out
      obtain ⟨rfl, rfl⟩ : sa = a2 ∧ sc = cap2 := by simpa using hva
      obtain ⟨bk, ok, rfl, hcs2⟩ := hcs (by intro h; rw [h] at hlt; simp at hlt)
      have x0 := hcs2 k _ (getD_of hlt)
      obtain ⟨a3, cap3, hvb, -, hds⟩ := HOQ.out
      obtain ⟨rfl, rfl⟩ : oa = a3 ∧ oc = cap3 := by simpa [okL_len] using hvb
      obtain ⟨bo, oo, rfl, hds2⟩ := hds (by intro h; have h2 := okL_len l l.length; rw [h] at h2; simp at h2; omega)
      have z0 := bos_at HOQ.out k (by rw [okL_len]; exact hlt)
      rw [okL_get l hlt] at z0
      have t5 : k ≤ sc := Nat.le_trans (Nat.le_of_lt hlt) HCAP.out
      have t6 : (k : Int) ≤ sc := by omega
      have t7 : ¬ sc = 0 := by have := HCAP.out; omega
      have t8 : k ≤ sc := t5
      clear hcs hcs2 hva hvb hds hds2 hk
      obtain ⟨x, hxe⟩ : ∃ z, l.getD k 0 = z := ⟨_, rfl⟩
      rw [hxe] at x0
      have HXE := Lib.hid hxe
      clear hxe
      by_cases hx0 : x < 0
      · have n1 : decide (x ≥ 0) = false := by simp; omega
        have n2 : decide (0 ≤ x) = false := by simp; omega
        have hok := ok_no HLT.out (.inl (by rw [HXE.out]; exact hx0))
        rw [hok] at z0
        have HNX := Lib.hid (st_no hok)
        rw [HTE.out] at HNX
        clear hok hx0
        go_upto_region 9 with fail
        go_cut [8] from 26 to 59 (fun p wc => p = .bool false ∧ ∃ j : Nat, wc = wq.drewN j)
        case first =>
          go_quiet (fail)
          go_wp2
          go_meet
          exact ⟨rfl, _, rfl⟩
        obtain ⟨rfl, j, hwc⟩ := hcut
        have x0w : wc.cell? ⟨bk, ok + k, none⟩ = some (.int .i64 x) := by rw [hwc]; exact x0
        have z0w : wc.cell? ⟨bo, oo + k, none⟩ = some (.bool false) := by rw [hwc]; exact z0
        have HWC := Lib.hid hwc
        clear hwc x0 z0
        go_wp2
        go_roundw
        case rel => exact ⟨k + 1, _, HLT.out, by rw [HNX.out], by first | go_num | rfl, by rw [HWC.out, ← HW.out]; exact World.drewN_drewN _ _ _⟩
        case measure => simp [intOf]; omega
      · replace hx0 : 0 ≤ x := by omega
        by_cases hx1 : 1000000 < x
        · have n1 : decide (x ≥ 0) = true := by simp; omega
          have n2 : decide (0 ≤ x) = true := by simp; omega
          have n3 : decide (x ≤ 1000000) = false := by simp; omega
          have hok := ok_no HLT.out (.inr (.inl (by rw [HXE.out]; exact hx1)))
          rw [hok] at z0
          have HNX := Lib.hid (st_no hok)
          rw [HTE.out] at HNX
          clear hok hx1
          clear hx0
          go_upto_region 9 with fail
          go_cut [8] from 26 to 59 (fun p wc => p = .bool false ∧ ∃ j : Nat, wc = wq.drewN j)
          case first =>
            go_quiet (fail)
            go_wp2
            go_meet
            exact ⟨rfl, _, rfl⟩
          obtain ⟨rfl, j, hwc⟩ := hcut
          have x0w : wc.cell? ⟨bk, ok + k, none⟩ = some (.int .i64 x) := by rw [hwc]; exact x0
          have z0w : wc.cell? ⟨bo, oo + k, none⟩ = some (.bool false) := by rw [hwc]; exact z0
          have HWC := Lib.hid hwc
          clear hwc x0 z0
          go_wp2
          go_roundw
          case rel => exact ⟨k + 1, _, HLT.out, by rw [HNX.out], by first | go_num | rfl, by rw [HWC.out, ← HW.out]; exact World.drewN_drewN _ _ _⟩
          case measure => simp [intOf]; omega
        · replace hx1 : x ≤ 1000000 := by omega
          cases hin : inB (l.take k) (okL l l.length) x
          · by_cases hx4 : t - 16 < x
            · by_cases hxt : t < x
              · have n1 : decide (x ≥ 0) = true := by simp; omega
                have n2 : decide (0 ≤ x) = true := by simp; omega
                have n3 : decide (x ≤ 1000000) = true := by simp; omega
                have n4 : decide (x > t - 16) = true := by simp; omega
                have n5 : decide (t - 16 < x) = true := by simp; omega
                have HIN := Lib.hid hin
                have hok := ok_yes HLT.out (by rw [HXE.out]; omega) (by rw [HXE.out]; omega) (by rw [HXE.out]; exact hin) (by rw [HXE.out, HTE.out]; omega)
                have n6 : t < x := hxt
                have n7 : ¬ x ≤ t := by omega
                have n8 : t ≤ x := by omega
                rw [hok] at z0
                have HNX := Lib.hid (st_yes hok)
                rw [HTE.out, HXE.out, if_pos hxt] at HNX
                clear hok hin hx4 hxt
                clear hx0 hx1
                go_upto_region 9 with fail
                go_cut [8] from 26 to 59 (fun p wc => p = .bool true ∧ ∃ j : Nat, wc = wq.drewN j)
                case first =>
                  go_quiet ((go_at_call 31; exact Calls.quiet_of_same (in_q HIN.out _ (ints_take HIQ.out HLE.out) HOQ.out)))
                  go_wp2
                  go_meet
                  exact ⟨rfl, _, rfl⟩
                obtain ⟨rfl, j, hwc⟩ := hcut
                have x0w : wc.cell? ⟨bk, ok + k, none⟩ = some (.int .i64 x) := by rw [hwc]; exact x0
                have z0w : wc.cell? ⟨bo, oo + k, none⟩ = some (.bool true) := by rw [hwc]; exact z0
                have HWC := Lib.hid hwc
                clear hwc x0 z0
                go_wp2
                go_roundw
                case rel => exact ⟨k + 1, _, HLT.out, by rw [HNX.out], by first | go_num | rfl, by rw [HWC.out, ← HW.out]; exact World.drewN_drewN _ _ _⟩
                case measure => simp [intOf]; omega
              · have n1 : decide (x ≥ 0) = true := by simp; omega
                have n2 : decide (0 ≤ x) = true := by simp; omega
                have n3 : decide (x ≤ 1000000) = true := by simp; omega
                have n4 : decide (x > t - 16) = true := by simp; omega
                have n5 : decide (t - 16 < x) = true := by simp; omega
                have HIN := Lib.hid hin
                have hok := ok_yes HLT.out (by rw [HXE.out]; omega) (by rw [HXE.out]; omega) (by rw [HXE.out]; exact hin) (by rw [HXE.out, HTE.out]; omega)
                have n6 : ¬ t < x := hxt
                have n7 : x ≤ t := by omega
                rw [hok] at z0
                have HNX := Lib.hid (st_yes hok)
                rw [HTE.out, HXE.out, if_neg hxt] at HNX
                clear hok hin hx4 hxt
                clear hx0 hx1
                go_upto_region 9 with fail
                go_cut [8] from 26 to 59 (fun p wc => p = .bool true ∧ ∃ j : Nat, wc = wq.drewN j)
                case first =>
                  go_quiet ((go_at_call 31; exact Calls.quiet_of_same (in_q HIN.out _ (ints_take HIQ.out HLE.out) HOQ.out)))
                  go_wp2
                  go_meet
                  exact ⟨rfl, _, rfl⟩
                obtain ⟨rfl, j, hwc⟩ := hcut
                have x0w : wc.cell? ⟨bk, ok + k, none⟩ = some (.int .i64 x) := by rw [hwc]; exact x0
                have z0w : wc.cell? ⟨bo, oo + k, none⟩ = some (.bool true) := by rw [hwc]; exact z0
                have HWC := Lib.hid hwc
                clear hwc x0 z0
                go_wp2
                go_roundw
                case rel => exact ⟨k + 1, _, HLT.out, by rw [HNX.out], by first | go_num | rfl, by rw [HWC.out, ← HW.out]; exact World.drewN_drewN _ _ _⟩
                case measure => simp [intOf]; omega
            · have n1 : decide (x ≥ 0) = true := by simp; omega
              have n2 : decide (0 ≤ x) = true := by simp; omega
              have n3 : decide (x ≤ 1000000) = true := by simp; omega
              have n4 : decide (x > t - 16) = false := by simp; omega
              have n5 : decide (t - 16 < x) = false := by simp; omega
              have HIN := Lib.hid hin
              have hok := ok_no HLT.out (.inr (.inr (.inr (by rw [HXE.out, HTE.out]; omega))))
              rw [hok] at z0
              have HNX := Lib.hid (st_no hok)
              rw [HTE.out] at HNX
              clear hok hin hx4
              clear hx0 hx1
              go_upto_region 9 with fail
              go_cut [8] from 26 to 59 (fun p wc => p = .bool false ∧ ∃ j : Nat, wc = wq.drewN j)
              case first =>
                go_quiet ((go_at_call 31; exact Calls.quiet_of_same (in_q HIN.out _ (ints_take HIQ.out HLE.out) HOQ.out)))
                go_wp2
                go_meet
                exact ⟨rfl, _, rfl⟩
              obtain ⟨rfl, j, hwc⟩ := hcut
              have x0w : wc.cell? ⟨bk, ok + k, none⟩ = some (.int .i64 x) := by rw [hwc]; exact x0
              have z0w : wc.cell? ⟨bo, oo + k, none⟩ = some (.bool false) := by rw [hwc]; exact z0
              have HWC := Lib.hid hwc
              clear hwc x0 z0
              go_wp2
              go_roundw
              case rel => exact ⟨k + 1, _, HLT.out, by rw [HNX.out], by first | go_num | rfl, by rw [HWC.out, ← HW.out]; exact World.drewN_drewN _ _ _⟩
              case measure => simp [intOf]; omega
          · have n1 : decide (x ≥ 0) = true := by simp; omega
            have n2 : decide (0 ≤ x) = true := by simp; omega
            have n3 : decide (x ≤ 1000000) = true := by simp; omega
            have HIN := Lib.hid hin
            have hok := ok_no HLT.out (.inr (.inr (.inl (by rw [HXE.out]; exact hin))))
            rw [hok] at z0
            have HNX := Lib.hid (st_no hok)
            rw [HTE.out] at HNX
            clear hok hin
            clear hx0 hx1
            go_upto_region 9 with fail
            go_cut [8] from 26 to 59 (fun p wc => p = .bool false ∧ ∃ j : Nat, wc = wq.drewN j)
            case first =>
              go_quiet ((go_at_call 31; exact Calls.quiet_of_same (in_q HIN.out _ (ints_take HIQ.out HLE.out) HOQ.out)))
              go_wp2
              go_meet
              exact ⟨rfl, _, rfl⟩
            obtain ⟨rfl, j, hwc⟩ := hcut
            have x0w : wc.cell? ⟨bk, ok + k, none⟩ = some (.int .i64 x) := by rw [hwc]; exact x0
            have z0w : wc.cell? ⟨bo, oo + k, none⟩ = some (.bool false) := by rw [hwc]; exact z0
            have HWC := Lib.hid hwc
            clear hwc x0 z0
            go_wp2
            go_roundw
            case rel => exact ⟨k + 1, _, HLT.out, by rw [HNX.out], by first | go_num | rfl, by rw [HWC.out, ← HW.out]; exact World.drewN_drewN _ _ _⟩
            case measure => simp [intOf]; omega
    · have hke : k = l.length := by omega
      subst hke
      rw [HT.out] at ht
      subst ht
      rw [HT.out]
      have HWF := Lib.hid (st_wf l l.length)
      rw [HT.out] at HWF
      have HWF : Hid (WF T (stT l l.length).2) := HWF
      clear hkw hk9
      obtain ⟨W2, hW2⟩ : ∃ z, WA.drewN n = z := ⟨_, rfl⟩
      rw [hW2]
      have GI := Lib.hid (FI_7.out.step (below_drewN' _ _ n))
      rw [hW2] at GI
      have GQ := Lib.hid (FQ_8.out.step (below_drewN' _ _ n))
      rw [hW2] at GQ
      have GO := Lib.hid (FO_9.out.step (below_drewN' _ _ n))
      rw [hW2] at GO
      have GC := Lib.hid (FC_10.out.step (below_drewN' _ _ n))
      rw [hW2] at GC
      have GHB := Lib.hid (keep2 (below_drewN' _ _ n) HB11.out)
      rw [hW2] at GHB
      clear hW2 FI_7 FQ_8 FO_9 FC_10 HB11
      have xC0 := GC.out.c 0 rfl
      have xC1 := GC.out.c 1 rfl
      have xzC := GC.out.2.2
      have e0 : (T != T) = false := by simp
      go_wp2_with fail
      refine (refw T _ c (stT l l.length).2 _ GQ.out HWF.out).mono ?_
      rintro e w3 ⟨rfl, b3⟩
      have KI := Lib.hid (GI.out.step b3)
      have KQ := Lib.hid (GQ.out.step b3)
      have KO := Lib.hid (GO.out.step b3)
      have KC := Lib.hid (GC.out.step b3)
      have KHB := Lib.hid (keep2 b3 GHB.out)
      clear xC0 xC1 xzC GI GQ GO GC GHB b3
      have yC0 := KC.out.c 0 rfl
      have yC1 := KC.out.c 1 rfl
      have yzC := KC.out.2.2
      go_wp2_with fail
      obtain ⟨W3, hW3⟩ : ∃ z, w3 = z := ⟨_, rfl⟩
      subst hW3
      go_loopw [9] (fun iv wr => ∃ k n : Nat, k ≤ 16 ∧ iv = .int .i64 k ∧ wr = w3.drewN n) (fun iv _ => 16 - (intOf iv).toNat)
      case atStart => exact ⟨0, 0, by omega, rfl, rfl⟩
      case round =>
        obtain ⟨k, n, hk, rfl, rfl⟩ := hrel
        have hkw : wrap64 ((k : Int) + 1) = k + 1 := IntWalk.wrap64_in _ (by omega)
        clear yC0 yC1 yzC
        by_cases hlt : k < 16
        · have HK16 := Lib.hid hlt
          have s1 : (k : Int) < 16 := by omega
          have s2 : decide ((k : Int) < 16) = true := by simp; omega
          have ht1 : -1 ≤ T := HWF.out.2.1
          have ht2 : T ≤ 1000000 := HWF.out.2.2.1
          have htw : wrap64 (T - (k : Int)) = T - k := IntWalk.wrap64_in _ (by omega)
          obtain ⟨wq, hwq⟩ : ∃ wq, w3.drewN n = wq := ⟨_, rfl⟩
          have HIQ : Hid (IntsAt wq _ l) := Lib.hid (by rw [← hwq]; exact KI.out.step (below_drewN' _ _ _))
          have HOQ : Hid (BosAt wq _ (okL l l.length)) := Lib.hid (by rw [← hwq]; exact KO.out.step (below_drewN' _ _ _))
          have HQQ : Hid (BosAt wq _ (stT l l.length).2) := Lib.hid (by rw [← hwq]; exact KQ.out.step (below_drewN' _ _ _))
          have HCQ : Hid (Cs wq _ _) := Lib.hid (by rw [← hwq]; exact KC.out.step (below_drewN' _ _ _))
          rw [hwq]
          have HW := Lib.hid hwq
          clear hwq
          have vC0 := HCQ.out.c 0 rfl
          have vC1 := HCQ.out.c 1 rfl
          have vzC := HCQ.out.2.2
          have z0 := bos_at HQQ.out k (by rw [HWF.out.1]; exact hlt)
          have HS := Lib.hid (seen_is l hlt)
          rw [HT.out] at HS
          by_cases hneg : T - (k : Int) < 0
          · have g1 : decide (T - (k : Int) ≥ 0) = false := by simp; omega
            have g2 : decide (0 ≤ T - (k : Int)) = false := by simp; omega
            have g3 : decide ((k : Int) ≤ T) = false := by simp; omega
            rw [HS.out, g2, Bool.false_and] at z0
            clear hneg
            clear ht1 ht2 HS
            go_upto_region 19 with fail
            go_cut [108] from 91 to 108 (fun p wc => p = .bool false ∧ ∃ j : Nat, wc = wq.drewN j)
            case first =>
              go_quiet (fail)
              go_wp2
              go_meet
              exact ⟨rfl, _, rfl⟩
            obtain ⟨rfl, j, hwc⟩ := hcut
            have HWC := Lib.hid hwc
            clear hwc vC0 vC1 vzC z0
            go_wp2
            go_roundw
            case rel => exact ⟨k + 1, _, HK16.out, by first | go_num | rfl, by rw [HWC.out, ← HW.out]; exact World.drewN_drewN _ _ _⟩
            case measure => simp [intOf]; omega
          · cases hin : inB l (okL l l.length) (T - k)
            · have g1 : decide (T - (k : Int) ≥ 0) = true := by simp; omega
              have g2 : decide (0 ≤ T - (k : Int)) = true := by simp; omega
              have g3 : decide ((k : Int) ≤ T) = true := by simp; omega
              have HIN := Lib.hid hin
              rw [HS.out, g2, hin, Bool.true_and] at z0
              clear hneg hin
              clear ht1 ht2 HS
              go_upto_region 19 with fail
              go_cut [108] from 91 to 108 (fun p wc => p = .bool false ∧ ∃ j : Nat, wc = wq.drewN j)
              case first =>
                go_quiet ((go_at_call 31; exact Calls.quiet_of_same (in_q HIN.out _ HIQ.out HOQ.out)))
                go_wp2
                go_meet
                exact ⟨rfl, _, rfl⟩
              obtain ⟨rfl, j, hwc⟩ := hcut
              have HWC := Lib.hid hwc
              clear hwc vC0 vC1 vzC z0
              go_wp2
              go_roundw
              case rel => exact ⟨k + 1, _, HK16.out, by first | go_num | rfl, by rw [HWC.out, ← HW.out]; exact World.drewN_drewN _ _ _⟩
              case measure => simp [intOf]; omega
            · have g1 : decide (T - (k : Int) ≥ 0) = true := by simp; omega
              have g2 : decide (0 ≤ T - (k : Int)) = true := by simp; omega
              have g3 : decide ((k : Int) ≤ T) = true := by simp; omega
              have HIN := Lib.hid hin
              rw [HS.out, g2, hin, Bool.true_and] at z0
              clear hneg hin
              clear ht1 ht2 HS
              go_upto_region 19 with fail
              go_cut [108] from 91 to 108 (fun p wc => p = .bool false ∧ ∃ j : Nat, wc = wq.drewN j)
              case first =>
                go_quiet ((go_at_call 31; exact Calls.quiet_of_same (in_q HIN.out _ HIQ.out HOQ.out)))
                go_wp2
                go_meet
                exact ⟨rfl, _, rfl⟩
              obtain ⟨rfl, j, hwc⟩ := hcut
              have HWC := Lib.hid hwc
              clear hwc vC0 vC1 vzC z0
              go_wp2
              go_roundw
              case rel => exact ⟨k + 1, _, HK16.out, by first | go_num | rfl, by rw [HWC.out, ← HW.out]; exact World.drewN_drewN _ _ _⟩
              case measure => simp [intOf]; omega
        · have hke : k = 16 := by omega
          subst hke
          have HCE := Lib.hid (KC.out.step (below_drewN' _ _ n))
          have vC0 := HCE.out.c 0 rfl
          have vC1 := HCE.out.c 1 rfl
          have vzC := HCE.out.2.2
          have KE := Lib.hid (keep2 (below_drewN' _ _ n) KHB.out)
          go_wp2
          go_ret
          exact ⟨rfl, KE.out⟩
theorem once_any (v : Value) (l : List Int) (w : World) (h : IntsAt w v l) (hcap : ∀ a n c, v = .slice a n c → n ≤ c) : Calls Try.prog 8 #[v] w fun e w' => e = .returned (.bool true) ∧ Below w.heap.size w w' := by
  by_cases h9 : l.length ≤ 60
  · exact on_main v l w h hcap h9
  · exact on_long v l w h hcap (by omega)
end Go.Proofs.Ytebeaekiaikgmaa
