/- Frames, the reference: 'Decode'. -/
import Derived.Test.YtebeaekiaikgmaaPd
import Derived.Test.YtebeaekiaikgmaaHa
namespace Go.Proofs.Ytebeaekiaikgmaa
open Go.RowKit

theorem rnumber_b (v : Value) (l : List Int) (k : Nat) (ki : Int) (w : World) (h : BysAt w v l) (hb : IsBy l) (he : ki = k) (hk : k + 4 ≤ l.length) (h9 : l.length ≤ 2000) : Calls Try.prog 41 #[v, .int .i64 ki] w fun e w' => e = .returned (.int .i64 (num4 l k)) ∧ Below w.heap.size w w' ∧ w'.heap.size = w.heap.size := by
  subst he
  refine (rnumber_any v l k w h hb hk h9).mono ?_
  rintro e w' ⟨h1, n, rfl⟩
  exact ⟨h1, below_drewN' _ _ _, rfl⟩
set_option maxRecDepth 100000 in
set_option maxHeartbeats 8000000 in
theorem rdecode_short (v : Value) (l : List Int) (w : World) (h : BysAt w v l) (hb : IsBy l) (h9 : l.length ≤ 2000) (hs : l.length < 23) : Calls Try.prog 14 #[v] w (DcP w 0 0 0 0 [] 0 24) := by
  have HV := Lib.hid h
  obtain ⟨a, cap, rfl, hcp, hm, hc⟩ := h
  have HR0 := Lib.hid (Cs.new w w.heap.size #[.int .i64 0, .int .i64 0, .int .i64 0, .int .i64 0, .slice none 0 0, .int .i64 0] 24 rfl)
  have HB0 := Lib.hid (al w (.cells #[.int .i64 0, .int .i64 0, .int .i64 0, .int .i64 0, .slice none 0 0, .int .i64 0] 24))
  have g1 : decide ((l.length : Int) < 23) = true := by simp; omega
  clear hc hcp hm h9 hs
  have r0 := HR0.out.c 0 rfl
  have r1 := HR0.out.c 1 rfl
  have r2 := HR0.out.c 2 rfl
  have r3 := HR0.out.c 3 rfl
  have r4 := HR0.out.c 4 rfl
  have r5 := HR0.out.c 5 rfl
  have p0 := HR0.out.f 0 (by simp)
  have p1 := HR0.out.f 1 (by simp)
  have p2 := HR0.out.f 2 (by simp)
  have p3 := HR0.out.f 3 (by simp)
  have p4 := HR0.out.f 4 (by simp)
  have p5 := HR0.out.f 5 (by simp)
  have rz := HR0.out.2.2
  go_enter Try.func14, Try.ntmps14
  go_wp2_with fail
  exact bodyPost_ret (v := .tuple #[.agg #[.int .i64 0, .int .i64 0, .int .i64 0, .int .i64 0, .slice none 0 0, .int .i64 0], .int .i64 24]) (by simp [results, Try.results14, go_sem, r0, r1, r2, r3, r4, r5]) rfl ⟨_, rfl, ints_nil _, HB0.out⟩
set_option maxRecDepth 100000 in
set_option maxHeartbeats 8000000 in
theorem rdecode_len (v : Value) (l : List Int) (w : World) (h : BysAt w v l) (hb : IsBy l) (h9 : l.length ≤ 2000) (hs : 23 ≤ l.length) (hn : (l.length : Int) ≠ 23 + 4 * l.getD 16 0) : Calls Try.prog 14 #[v] w (DcP w 0 0 0 0 [] 0 24) := by
  have HV := Lib.hid h
  obtain ⟨a, cap, rfl, hcp, hm, hc⟩ := h
  have HR0 := Lib.hid (Cs.new w w.heap.size #[.int .i64 0, .int .i64 0, .int .i64 0, .int .i64 0, .slice none 0 0, .int .i64 0] 24 rfl)
  have HB0 := Lib.hid (al w (.cells #[.int .i64 0, .int .i64 0, .int .i64 0, .int .i64 0, .slice none 0 0, .int .i64 0] 24))
  obtain ⟨b, off, rfl, hx⟩ := hc (by intro e; rw [e] at hs; simp at hs)
  have x0 := keep1 HB0.out (hx 16 _ (getD_of (show 16 < l.length by omega)))
  have hb16 := by_get hb 16
  obtain ⟨n, hn16⟩ : ∃ n, l.getD 16 0 = n := ⟨_, rfl⟩
  rw [hn16] at x0 hn hb16
  have g1 : decide ((l.length : Int) < 23) = false := by simp; omega
  have g2 : wrap64 (4 * n) = 4 * n := IntWalk.wrap64_in _ (by omega)
  have g3 : wrap64 (23 + 4 * n) = 23 + 4 * n := IntWalk.wrap64_in _ (by omega)
  have g4 : ((l.length : Int) == 23 + 4 * n) = false := by simpa using hn
  have g5 : ((l.length : Int) != 23 + 4 * n) = true := by simpa using hn
  have g6 : ((l.length : Int) = 23 + 4 * n) = False := by simpa using hn
  have g7 : 16 < l.length := by omega
  have g8 : (16 : Int) < l.length := by omega
  clear hc hcp hm h9 hs hx hn16 hn
  have r0 := HR0.out.c 0 rfl
  have r1 := HR0.out.c 1 rfl
  have r2 := HR0.out.c 2 rfl
  have r3 := HR0.out.c 3 rfl
  have r4 := HR0.out.c 4 rfl
  have r5 := HR0.out.c 5 rfl
  have p0 := HR0.out.f 0 (by simp)
  have p1 := HR0.out.f 1 (by simp)
  have p2 := HR0.out.f 2 (by simp)
  have p3 := HR0.out.f 3 (by simp)
  have p4 := HR0.out.f 4 (by simp)
  have p5 := HR0.out.f 5 (by simp)
  have rz := HR0.out.2.2
  go_enter Try.func14, Try.ntmps14
  go_wp2_with fail
  exact bodyPost_ret (v := .tuple #[.agg #[.int .i64 0, .int .i64 0, .int .i64 0, .int .i64 0, .slice none 0 0, .int .i64 0], .int .i64 24]) (by simp [results, Try.results14, go_sem, r0, r1, r2, r3, r4, r5]) rfl ⟨_, rfl, ints_nil _, HB0.out⟩
set_option maxRecDepth 100000 in
set_option maxHeartbeats 8000000 in
theorem rdecode_main (v : Value) (l : List Int) (w : World) (h : BysAt w v l) (hb : IsBy l) (h9 : l.length ≤ 2000) (n : Nat) (hn : l.getD 16 0 = n) (hs : l.length = 23 + 4 * n) : Calls Try.prog 14 #[v] w (DcQ w l n) := by
  have HV := Lib.hid h
  obtain ⟨a, cap, rfl, hcp, hm, hc⟩ := h
  have HR0 := Lib.hid (Cs.new w w.heap.size #[.int .i64 0, .int .i64 0, .int .i64 0, .int .i64 0, .slice none 0 0, .int .i64 0] 24 rfl)
  have HB0 := Lib.hid (al w (.cells #[.int .i64 0, .int .i64 0, .int .i64 0, .int .i64 0, .slice none 0 0, .int .i64 0] 24))
  obtain ⟨b, off, rfl, hx⟩ := hc (by intro e; rw [e] at hs; simp at hs; omega)
  have x0 := keep1 HB0.out (hx 16 _ (getD_of (show 16 < l.length by omega)))
  have hb16 := by_get hb 16
  rw [hn] at x0 hb16
  have g1 : decide ((l.length : Int) < 23) = false := by simp; omega
  have g2 : wrap64 (4 * (n : Int)) = 4 * n := IntWalk.wrap64_in _ (by omega)
  have g3 : wrap64 (23 + 4 * (n : Int)) = 23 + 4 * n := IntWalk.wrap64_in _ (by omega)
  have g4 : ((l.length : Int) == 23 + 4 * n) = true := by simp; omega
  have g5 : ((l.length : Int) != 23 + 4 * n) = false := by simp; omega
  have g6 : ((l.length : Int) = 23 + 4 * n) = True := by simp; omega
  have g7 : 16 < l.length := by omega
  have g8 : (16 : Int) < l.length := by omega
  have g9 : wrap64 ((l.length : Int) - 6) = l.length - 6 := IntWalk.wrap64_in _ (by omega)
  have xb : b < w.heap.size := World.block_lt_of_cell? _ _ (hx 16 _ (getD_of (show 16 < l.length by omega)))
  have xb2 : b < w.heap.size + 1 := Nat.lt_succ_of_lt xb
  have HNL := Lib.hid (show l.length = 23 + 4 * n ∧ n ≤ 255 from ⟨hs, by omega⟩)
  have HBY := Lib.hid hb
  have HX16 := Lib.hid (hx 16 _ (getD_of (show 16 < l.length by omega)))
  rw [hn] at HX16
  have hn9 : (n : Int) ≤ 255 := hb16.2
  have hn0 : 0 ≤ (n : Int) := hb16.1
  clear hc hcp hm hs hx hn hb16
  replace h9 := Lib.hid h9
  have HV0 := HV
  replace HV := Lib.hid (HV.out.step HB0.out)
  have HS0 := Lib.hid (show (w.alloc (.cells #[.int .i64 0, .int .i64 0, .int .i64 0, .int .i64 0, .slice none 0 0, .int .i64 0] 24)).heap.size = w.heap.size + 1 by simp)
  have r0 := HR0.out.c 0 rfl
  have r1 := HR0.out.c 1 rfl
  have r2 := HR0.out.c 2 rfl
  have r3 := HR0.out.c 3 rfl
  have r4 := HR0.out.c 4 rfl
  have r5 := HR0.out.c 5 rfl
  have p0 := HR0.out.f 0 (by simp)
  have p1 := HR0.out.f 1 (by simp)
  have p2 := HR0.out.f 2 (by simp)
  have p3 := HR0.out.f 3 (by simp)
  have p4 := HR0.out.f 4 (by simp)
  have p5 := HR0.out.f 5 (by simp)
  have rz := HR0.out.2.2
  go_enter Try.func14, Try.ntmps14
  go_wp2_with fail
  refine (rnumber_b _ l 0 0 _ HV.out HBY.out (by have := HNL.out; omega) (by have := HNL.out; omega) h9.out).mono ?_
  rintro e v0 ⟨rfl, b0, s0⟩
  replace HV := Lib.hid (HV.out.step b0)
  replace HR0 := Lib.hid (HR0.out.step b0)
  replace HB0 := Lib.hid (keep2 b0 HB0.out)
  have HS1 := Lib.hid (s0.trans HS0.out)
  clear b0 s0
  go_wp2_with fail
  refine (rnumber_b _ l 4 4 _ HV.out HBY.out (by have := HNL.out; omega) (by have := HNL.out; omega) h9.out).mono ?_
  rintro e v1 ⟨rfl, b1, s1⟩
  replace HV := Lib.hid (HV.out.step b1)
  replace HR0 := Lib.hid (HR0.out.step b1)
  replace HB0 := Lib.hid (keep2 b1 HB0.out)
  have HS2 := Lib.hid (s1.trans HS1.out)
  clear b1 s1
  go_wp2_with fail
  refine (rnumber_b _ l 8 8 _ HV.out HBY.out (by have := HNL.out; omega) (by have := HNL.out; omega) h9.out).mono ?_
  rintro e v2 ⟨rfl, b2, s2⟩
  replace HV := Lib.hid (HV.out.step b2)
  replace HR0 := Lib.hid (HR0.out.step b2)
  replace HB0 := Lib.hid (keep2 b2 HB0.out)
  have HS3 := Lib.hid (s2.trans HS2.out)
  clear b2 s2
  go_wp2_with fail
  refine (rnumber_b _ l 12 12 _ HV.out HBY.out (by have := HNL.out; omega) (by have := HNL.out; omega) h9.out).mono ?_
  rintro e v3 ⟨rfl, b3, s3⟩
  replace HV := Lib.hid (HV.out.step b3)
  replace HR0 := Lib.hid (HR0.out.step b3)
  replace HB0 := Lib.hid (keep2 b3 HB0.out)
  have HS4 := Lib.hid (s3.trans HS3.out)
  clear b3 s3
  go_wp2_with fail
  refine (rnumber_b _ l (17 + 4 * n) ((l.length : Int) - 6) _ HV.out HBY.out (by have := HNL.out; omega) (by have := HNL.out; omega) h9.out).mono ?_
  rintro e v4 ⟨rfl, b4, s4⟩
  replace HV := Lib.hid (HV.out.step b4)
  replace HR0 := Lib.hid (HR0.out.step b4)
  replace HB0 := Lib.hid (keep2 b4 HB0.out)
  have HS5 := Lib.hid (s4.trans HS4.out)
  clear b4 s4
  go_wp2_with fail
  have HZ5 := HS5.out
  rw [HZ5]
  have HF2 := Lib.hid (Cs.new v4 (w.heap.size + 1) #[.int .i64 (num4 l 0), .int .i64 (num4 l 4), .int .i64 (num4 l 8), .int .i64 (num4 l 12), .slice none 0 0, .int .i64 (num4 l (17 + 4 * n))] 24 HZ5.symm)
  have HR2 := Lib.hid (HR0.out.alloc (.cells #[.int .i64 (num4 l 0), .int .i64 (num4 l 4), .int .i64 (num4 l 8), .int .i64 (num4 l 12), .slice none 0 0, .int .i64 (num4 l (17 + 4 * n))] 24))
  have HB2 := Lib.hid (HB0.out.alloc HB0.out.size (.cells #[.int .i64 (num4 l 0), .int .i64 (num4 l 4), .int .i64 (num4 l 8), .int .i64 (num4 l 12), .slice none 0 0, .int .i64 (num4 l (17 + 4 * n))] 24))
  have HZ2 := Lib.hid (show w.heap.size + 1 + 1 ≤ (v4.alloc (.cells #[.int .i64 (num4 l 0), .int .i64 (num4 l 4), .int .i64 (num4 l 8), .int .i64 (num4 l 12), .slice none 0 0, .int .i64 (num4 l (17 + 4 * n))] 24)).heap.size by simp; omega)
  replace HV := Lib.hid (HV.out.step (al v4 (.cells #[.int .i64 (num4 l 0), .int .i64 (num4 l 4), .int .i64 (num4 l 8), .int .i64 (num4 l 12), .slice none 0 0, .int .i64 (num4 l (17 + 4 * n))] 24)))
  clear r0 r1 r2 r3 r4 r5 p0 p1 p2 p3 p4 p5 rz x0 g1 g2 g3 g4 g5 g6 g7 g8 g9 xb xb2 HZ5
  obtain ⟨W2, hW2⟩ : ∃ z, v4.alloc (.cells #[.int .i64 (num4 l 0), .int .i64 (num4 l 4), .int .i64 (num4 l 8), .int .i64 (num4 l 12), .slice none 0 0, .int .i64 (num4 l (17 + 4 * n))] 24) = z := ⟨_, rfl⟩
  rw [hW2] at HF2 HR2 HB2 HZ2 HV ⊢
  clear hW2
  obtain ⟨i0, hi, hz0, hz1, hz2⟩ := info_parts infoInt
  have HI := Lib.hid (show _ ∧ _ ∧ _ ∧ _ from ⟨hi, hz0, hz1, hz2⟩)
  obtain ⟨A, hA⟩ : ∃ z, num4 l 0 = z := ⟨_, rfl⟩
  obtain ⟨B, hB⟩ : ∃ z, num4 l 4 = z := ⟨_, rfl⟩
  obtain ⟨C, hC⟩ : ∃ z, num4 l 8 = z := ⟨_, rfl⟩
  obtain ⟨D, hD⟩ : ∃ z, num4 l 12 = z := ⟨_, rfl⟩
  obtain ⟨T, hT⟩ : ∃ z, num4 l (17 + 4 * n) = z := ⟨_, rfl⟩
  rw [hA, hB, hC, hD, hT] at HF2 ⊢
  have HNM := Lib.hid (show num4 l 0 = A ∧ num4 l 4 = B ∧ num4 l 8 = C ∧ num4 l 12 = D ∧ num4 l (17 + 4 * n) = T from ⟨hA, hB, hC, hD, hT⟩)
  clear hA hB hC hD hT hi hz0 hz1 hz2
  have HFB := Lib.hid (show FB (w.heap.size + 1 + 1) (w.heap.size + 1) A B C D [] T W2 from ⟨_, HF2.out, World.ownsRow_nil _ _ _ _⟩)
  clear HF2
  go_loopw [5] (fun kv wr => ∃ k : Nat, k ≤ n ∧ kv = .int .i64 k ∧ Hid (FB (w.heap.size + 1 + 1) (w.heap.size + 1) A B C D ((bodyL l n).take k) T wr) ∧ Hid (Below (w.heap.size + 1) W2 wr)) (fun kv _ => n - (intOf kv).toNat)
  case atStart => exact ⟨0, by omega, rfl, Lib.hid (by rw [List.take_zero]; exact HFB.out), Lib.hid (Below.refl _ _)⟩
  case round =>
    clear HFB
    obtain ⟨k, hk, rfl, HF, HW⟩ := hrel
    have HK9 := Lib.hid (show k ≤ 255 by have := HNL.out; omega)
    have hkw : wrap64 ((k : Int) + 1) = k + 1 := IntWalk.wrap64_in _ (by have := HK9.out; omega)
    have HK8 := Lib.hid (show ((k + 1 : Nat) : Int) = (k : Int) + 1 by omega)
    have HVW := Lib.hid (HV0.out.step (HB2.out.trans (HW.out.mono (Nat.le_succ _))))
    have HSZ := Lib.hid (Nat.le_trans HZ2.out HW.out.size)
    have x16 := keep1 (HB2.out.trans (HW.out.mono (Nat.le_succ _))) HX16.out
    have g7 : 16 < l.length := by have := HNL.out; omega
    have g8 : (16 : Int) < l.length := by omega
    by_cases hlt : k < n
    · have HLT := Lib.hid hlt
      have t1 : (k : Int) < n := by omega
      have t2 : decide ((k : Int) < n) = true := by simp; omega
      have HM := Lib.hid (show 17 + 4 * k + 4 ≤ l.length from by have := HNL.out; omega)
      have m1 : wrap64 (4 * (k : Int)) = 4 * k := IntWalk.wrap64_in _ (by have := HK9.out; omega)
      have m2 : wrap64 (17 + 4 * (k : Int)) = 17 + 4 * k := IntWalk.wrap64_in _ (by have := HK9.out; omega)
      have m3 : IntKind.i64.wrap (4 * (k : Int)) = 4 * k := IntWalk.i64_in _ (by have := HK9.out; omega)
      have m4 : IntKind.i64.wrap (17 + 4 * (k : Int)) = 17 + 4 * k := IntWalk.i64_in _ (by have := HK9.out; omega)
      have HT := Lib.hid (bodyL_take (l := l) hlt)
      have HYB := Lib.hid (num4_bd HBY.out (17 + 4 * k))
      obtain ⟨y, hy⟩ : ∃ y, num4 l (17 + 4 * k) = y := ⟨_, rfl⟩
      rw [hy] at HT HYB
      have HY := Lib.hid hy
      have q1 : IntKind.i64.wrap (y - 1000000000) = y - 1000000000 := IntWalk.i64_in _ (by have := HYB.out; omega)
      have q2 : wrap64 (y - 1000000000) = y - 1000000000 := IntWalk.wrap64_in _ (by have := HYB.out; omega)
      obtain ⟨bv, hC, hrow⟩ := HF.out
      have HLL := Lib.hid (show ((bodyL l n).take k).length = k by rw [List.length_take, bodyL_len]; omega)
      rw [HLL.out] at hrow
      obtain ⟨ba, bc, rfl⟩ := row_slice hrow
      have HRW := Lib.hid hrow
      have HCF := Lib.hid hC
      have x4 := hC.c 4 rfl
      have xz := hC.2.2
      have k1 : k + 1 ≤ maxLen := by have := HK9.out; unfold maxLen; omega
      have k2 : (k + 1) * 8 ≤ 140737488355328 := by have := HK9.out; omega
      clear hy hk hC hrow hlt
      go_wp2_with fail
      go_region_law (first | (go_simp; go_at_call 41; refine (rnumber_b _ l (17 + 4 * k) _ _ (HVW.out.step (below_drew _ _)) HBY.out (by omega) HM.out h9.out).mono ?_; rintro e w3 ⟨rfl, b3, s3⟩; rw [HY.out]; have HC3 := Lib.hid (HCF.out.step (keep2 b3 (below_drew _ wr))); have y4 := HC3.out.c 4 rfl; have yz := HC3.out.2.2; have hB6 := Lib.hid (keep2 (al w3 (.cells #[.int .i64 (y - 1000000000)] 3)) (keep2 b3 (below_drew _ wr))); have HR6 := Lib.hid (row_step HRW.out hB6.out); have x5 : (w3.alloc (.cells #[.int .i64 (y - 1000000000)] 3)).cell? ⟨w.heap.size + 1, 4, none⟩ = some (.slice ba k bc) := (HCF.out.step hB6.out).c 4 rfl; have k3 := Lib.hid (Nat.le_trans HSZ.out hB6.out.size); have HBW := Lib.hid (hB6.out.mono HSZ.out); clear b3 s3) | (refine step_append_lies _ rfl _ _ 22 rfl (w.heap.size + 1 + 1) 3 i0 (.int .i64 0) 1 8 Try.underlying22 HI.out.1 HI.out.2.1 HI.out.2.2.1 HI.out.2.2.2 rfl (by decide) _ _ _ rfl HR6.out ⟨w3.heap.size, 0, none⟩ 1 1 [.int .i64 (y - 1000000000)] rfl rfl (one_at (Cs.new _ _ _ _ rfl)) (by simp [Value.oneCell']) (by decide) k1 k2 k3.out _ rfl ?_; intro g' cap' w5 hown' hgrow hz9 hz8; clear hz9 hz8; have HN5 := Lib.hid hown'; have HB5 := Lib.hid (HBW.out.grown hgrow k3.out (fun k e => row_own HR6.out e)); have HC5 := Lib.hid (HCF.out.low HB5.out (Nat.lt_succ_self _)); have c5 := HC5.out.c 4 rfl; have f5 := HC5.out.f 4 (by simp); have z5 := HC5.out.2.2; clear hown' hgrow))
      all_goals clear x4 x5 xz q1 q2 y4 yz
      all_goals have HFF := Lib.hid (show FB (w.heap.size + 1 + 1) (w.heap.size + 1) A B C D ((bodyL l n).take (k + 1)) T (w5.setCell ⟨w.heap.size + 1, 4, none⟩ (.slice (some ⟨g', 0, none⟩) (k + 1) cap')) from ⟨_, Cs.set HC5.out 4 (by simp) (.slice (some ⟨g', 0, none⟩) (k + 1) cap') rfl, by rw [HT.out, List.length_append, HLL.out, List.map_append]; exact ownsRow_setCell_below HN5.out (a := ⟨w.heap.size + 1, 4, none⟩) (Nat.lt_succ_self _) _⟩)
      all_goals have HBF := Lib.hid (show Below (w.heap.size + 1) W2 (w5.setCell ⟨w.heap.size + 1, 4, none⟩ (.slice (some ⟨g', 0, none⟩) (k + 1) cap')) from (HW.out.trans (HB5.out.mono (Nat.le_succ _))).setCell (p := ⟨w.heap.size + 1, 4, none⟩) (Nat.le_refl _) _)
      all_goals clear c5 f5 z5
      all_goals go_wp2
      all_goals go_roundw
      all_goals first | exact ⟨k + 1, HLT.out, by (first | rw [hkw] | skip); rw [HK8.out], HFF, HBF⟩ | (have h2 := HLT.out; have h3 := HK8.out; (first | rw [hkw] | skip); simp [intOf]; omega)
    · obtain rfl : k = n := by omega
      have t2 : decide ((k : Int) < k) = false := by simp
      have HFE := Lib.hid (show FB (w.heap.size + 1 + 1) (w.heap.size + 1) A B C D (bodyL l k) T wr from by have h := HF.out; rw [List.take_of_length_le (by rw [bodyL_len]; exact Nat.le_refl _)] at h; exact h)
      clear HF hk hlt hkw
      obtain ⟨bv, hC, hrow⟩ := HFE.out
      obtain ⟨ba, bc, rfl⟩ := row_slice hrow
      have HRW := Lib.hid hrow
      have HCF := Lib.hid hC
      have HI5 := Lib.hid (ints_of_row hrow)
      have HR3 := Lib.hid (HR2.out.low HW.out (Nat.lt_succ_self _))
      have HBX := Lib.hid (HB2.out.trans (HW.out.mono (Nat.le_succ _)))
      have HDE := Lib.hid (show decE l k = encO A B C D (bodyL l k) T by unfold decE; rw [HNM.out.1, HNM.out.2.1, HNM.out.2.2.1, HNM.out.2.2.2.1, HNM.out.2.2.2.2])
      have e0 := hC.c 0 rfl
      have e1 := hC.c 1 rfl
      have e2 := hC.c 2 rfl
      have e3 := hC.c 3 rfl
      have e4 := hC.c 4 rfl
      have e5 := hC.c 5 rfl
      have ez := hC.2.2
      clear hC hrow HFE
      cases hv : vaB A B C D (bodyL l k) T
      · have HVT := Lib.hid hv
        have HDD := Lib.hid (show ¬ decE l k = l from fun e => by rw [HDE.out] at e; unfold encO at e; rw [hv, if_neg (by decide)] at e; have := HNL.out.1; rw [← e] at this; simp at this; omega)
        clear hv
        go_wp2_with fail
        go_upto_region 8 with fail
        clear e0 e1 e2 e3 e4 e5 ez x16 g7 g8 t2
        obtain ⟨lit, hlit⟩ : ∃ lit : (Nat → Value) → Act, lit = fun vs => { tmps := List.toArray (Value.slice (some { block := b, off := off }) l.length cap :: undef :: Value.pointer (some { block := w.heap.size, off := 0 }) :: Value.int IntKind.i64 0 :: Value.pointer (some { block := w.heap.size + 1, off := 0 }) :: Value.int IntKind.i64 (k : Int) :: Value.slice (some { block := b, off := off }) l.length cap :: Value.int IntKind.i64 (l.length : Int) :: Value.bool false :: Value.bool false :: Value.slice (some { block := b, off := off }) l.length cap :: Value.int IntKind.i64 (l.length : Int) :: Value.slice (some { block := b, off := off }) l.length cap :: Value.pointer (some { block := b, off := off + 16 }) :: Value.int IntKind.u8 (k : Int) :: Value.int IntKind.i64 (k : Int) :: Value.int IntKind.i64 (4 * (k : Int)) :: Value.int IntKind.i64 (23 + 4 * (k : Int)) :: Value.bool false :: Value.bool false :: undef :: Value.slice (some { block := b, off := off }) l.length cap :: Value.int IntKind.i64 A :: Value.slice (some { block := b, off := off }) l.length cap :: Value.int IntKind.i64 B :: Value.slice (some { block := b, off := off }) l.length cap :: Value.int IntKind.i64 C :: Value.slice (some { block := b, off := off }) l.length cap :: Value.int IntKind.i64 D :: Value.slice (some { block := b, off := off }) l.length cap :: Value.slice (some { block := b, off := off }) l.length cap :: Value.int IntKind.i64 (l.length : Int) :: Value.int IntKind.i64 ((l.length : Int) - 6) :: Value.int IntKind.i64 T :: Value.agg #[Value.int IntKind.i64 A, Value.int IntKind.i64 B, Value.int IntKind.i64 C, Value.int IntKind.i64 D, Value.slice none 0 0, Value.int IntKind.i64 T] :: Value.int IntKind.i64 (k : Int) :: Value.slice (some { block := b, off := off }) l.length cap :: Value.pointer (some { block := b, off := off + 16 }) :: Value.int IntKind.u8 (k : Int) :: Value.int IntKind.i64 (k : Int) :: Value.bool false :: u41 :: u42 :: u43 :: u44 :: u45 :: u46 :: u47 :: u48 :: u49 :: u50 :: u51 :: u52 :: u53 :: vs 0 :: vs 1 :: vs 2 :: vs 3 :: vs 4 :: vs 5 :: vs 6 :: vs 7 :: vs 8 :: vs 9 :: vs 10 :: undef :: undef :: []), defers := [] } := ⟨_, rfl⟩
        have HLIT := Lib.hid hlit
        clear hlit
        obtain ⟨val, hval⟩ : ∃ val : List Value, val = [.agg #[.int .i64 A, .int .i64 B, .int .i64 C, .int .i64 D, .slice ba (bodyL l k).length bc, .int .i64 T], .bool false, .bool true, .bool true, undef, undef, undef, undef, undef, undef, .bool true] := ⟨_, rfl⟩
        have E0 := Lib.hid (show val.getD 0 undef = .agg #[.int .i64 A, .int .i64 B, .int .i64 C, .int .i64 D, .slice ba (bodyL l k).length bc, .int .i64 T] by rw [hval]; rfl)
        have E1 := Lib.hid (show val.getD 1 undef = .bool false by rw [hval]; rfl)
        have E2 := Lib.hid (show val.getD 2 undef = .bool true by rw [hval]; rfl)
        have E3 := Lib.hid (show val.getD 3 undef = .bool true by rw [hval]; rfl)
        have E4 := Lib.hid (show val.getD 4 undef = undef by rw [hval]; rfl)
        have E5 := Lib.hid (show val.getD 5 undef = undef by rw [hval]; rfl)
        have E6 := Lib.hid (show val.getD 6 undef = undef by rw [hval]; rfl)
        have E7 := Lib.hid (show val.getD 7 undef = undef by rw [hval]; rfl)
        have E8 := Lib.hid (show val.getD 8 undef = undef by rw [hval]; rfl)
        have E9 := Lib.hid (show val.getD 9 undef = undef by rw [hval]; rfl)
        have E10 := Lib.hid (show val.getD 10 undef = .bool true by rw [hval]; rfl)
        clear hval
        obtain ⟨G, hG0⟩ : ∃ G : Nat → Value → World → Prop, G = (fun i v w => (v = val.getD i undef)) := ⟨_, rfl⟩
        have HG := Lib.hid hG0
        clear hG0
        refine region_inv (RS lit wr G) (by kernel_rfl) (by decide +kernel) ?_ ?_ ?_
        · exact ⟨fun i => ([undef, undef, undef, undef, undef, undef, undef, undef, undef, undef, undef] : List Value).getD i undef, (by rw [HLIT.out]; rfl), below_drew _ _, fun i h => by cases h⟩
        · refine ⟨?_, ?_, ?_, ?_, ?_, ?_, ?_, ?_, ?_, ?_, ?_, trivial⟩
          · intro bf ac wv hfb haf hJ K' hK
            obtain ⟨vs, rfl, hM, j4⟩ := hJ
            replace hK := Lib.hid hK
            replace hM := Lib.hid hM
            rw [HG.out] at j4
            replace j4 := Lib.hid j4
            clear haf hfb
            have x0 := (HCF.out.step hM.out).c 0 rfl
            have x1 := (HCF.out.step hM.out).c 1 rfl
            have x2 := (HCF.out.step hM.out).c 2 rfl
            have x3 := (HCF.out.step hM.out).c 3 rfl
            have x4 := (HCF.out.step hM.out).c 4 rfl
            have x5 := (HCF.out.step hM.out).c 5 rfl
            have xzz := (HCF.out.step hM.out).2.2
            rw [HLIT.out]
            go_simp
            exact hK.out _ _ (RS.next (wv := wv) (vs := vs) 0 (x := .agg #[.int .i64 A, .int .i64 B, .int .i64 C, .int .i64 D, .slice ba (bodyL l k).length bc, .int .i64 T]) (by rw [HLIT.out]; rfl) (by rw [HG.out]; exact j4.out) hM.out (by rw [HG.out]; exact fun _ _ h => h) (by rw [HG.out]; exact E0.out.symm))
          · intro bf ac wv hfb haf hJ K' hK
            obtain ⟨vs, rfl, hM, j4⟩ := hJ
            replace hK := Lib.hid hK
            replace hM := Lib.hid hM
            rw [HG.out] at j4
            simp [Region.binds] at haf
            have e0 := ((j4 0 (by simp [haf]))).trans E0.out
            replace j4 := Lib.hid j4
            clear haf hfb
            rw [HLIT.out]
            go_simp
            go_at_call 18
            refine (rvalid_any A B C D _ (bodyL l k) T _ (HI5.out.step hM.out) _ HVT.out).mono ?_
            rintro e w4 ⟨rfl, b4⟩
            exact hK.out _ _ (RS.next (wv := wv) (vs := vs) 1 (x := .bool false) (by rw [HLIT.out]; simp only [upv, e0, Nat.reduceBEq, cond_true, cond_false]) (by rw [HG.out]; exact j4.out) (keep2 b4 hM.out) (by rw [HG.out]; exact fun _ _ h => h) (by rw [HG.out]; exact E1.out.symm))
          · intro bf ac wv hfb haf hJ K' hK
            obtain ⟨vs, rfl, hM, j4⟩ := hJ
            replace hK := Lib.hid hK
            replace hM := Lib.hid hM
            rw [HG.out] at j4
            simp [Region.binds] at haf
            have e1 := ((j4 1 (by simp [haf]))).trans E1.out
            replace j4 := Lib.hid j4
            clear haf hfb
            rw [HLIT.out]
            go_simp
            exact hK.out _ _ (RS.next (wv := wv) (vs := vs) 2 (x := .bool true) (by rw [HLIT.out]; simp only [upv, e1, Nat.reduceBEq, cond_true, cond_false]) (by rw [HG.out]; exact j4.out) hM.out (by rw [HG.out]; exact fun _ _ h => h) (by rw [HG.out]; exact E2.out.symm))
          · intro bf ac wv hfb haf hJ K' hK
            obtain ⟨vs, rfl, hM, j4⟩ := hJ
            replace hK := Lib.hid hK
            replace hM := Lib.hid hM
            rw [HG.out] at j4
            simp [Region.binds] at haf
            have e2 := ((j4 2 (by simp [haf]))).trans E2.out
            replace j4 := Lib.hid j4
            clear haf hfb
            rw [HLIT.out]
            go_simp
            exact hK.out _ _ (RS.next (wv := wv) (vs := vs) 3 (x := .bool true) (by rw [HLIT.out]; simp only [upv, e2, Nat.reduceBEq, cond_true, cond_false]) (by rw [HG.out]; exact j4.out) hM.out (by rw [HG.out]; exact fun _ _ h => h) (by rw [HG.out]; exact E3.out.symm))
          · intro bf ac wv hfb haf hJ K' hK
            obtain ⟨vs, rfl, hM, j4⟩ := hJ
            replace hK := Lib.hid hK
            replace hM := Lib.hid hM
            rw [HG.out] at j4
            simp [Region.binds] at haf
            have e3 := ((j4 3 (by simp [haf]))).trans E3.out
            replace j4 := Lib.hid j4
            clear haf hfb
            rw [HLIT.out]
            go_simp
            exact hK.out _ _ (RS.next (wv := wv) (vs := vs) 4 (x := undef) (by rw [HLIT.out]; simp only [upv, e3, Nat.reduceBEq, cond_true, cond_false]) (by rw [HG.out]; exact j4.out) hM.out (by rw [HG.out]; exact fun _ _ h => h) (by rw [HG.out]; exact E4.out.symm))
          · intro bf ac wv hfb haf hJ K' hK
            obtain ⟨vs, rfl, hM, j4⟩ := hJ
            replace hK := Lib.hid hK
            replace hM := Lib.hid hM
            rw [HG.out] at j4
            simp [Region.binds] at haf
            have e3 := ((j4 3 (by simp [haf]))).trans E3.out
            replace j4 := Lib.hid j4
            clear haf hfb
            rw [HLIT.out]
            go_simp
            exact hK.out _ _ (RS.next (wv := wv) (vs := vs) 5 (x := undef) (by rw [HLIT.out]; simp only [upv, e3, Nat.reduceBEq, cond_true, cond_false]) (by rw [HG.out]; exact j4.out) hM.out (by rw [HG.out]; exact fun _ _ h => h) (by rw [HG.out]; exact E5.out.symm))
          · intro bf ac wv hfb haf hJ K' hK
            obtain ⟨vs, rfl, hM, j4⟩ := hJ
            replace hK := Lib.hid hK
            replace hM := Lib.hid hM
            rw [HG.out] at j4
            simp [Region.binds] at haf
            have e3 := ((j4 3 (by simp [haf]))).trans E3.out
            replace j4 := Lib.hid j4
            clear haf hfb
            rw [HLIT.out]
            go_simp
            exact hK.out _ _ (RS.next (wv := wv) (vs := vs) 6 (x := undef) (by rw [HLIT.out]; simp only [upv, e3, Nat.reduceBEq, cond_true, cond_false]) (by rw [HG.out]; exact j4.out) hM.out (by rw [HG.out]; exact fun _ _ h => h) (by rw [HG.out]; exact E6.out.symm))
          · intro bf ac wv hfb haf hJ K' hK
            obtain ⟨vs, rfl, hM, j4⟩ := hJ
            replace hK := Lib.hid hK
            replace hM := Lib.hid hM
            rw [HG.out] at j4
            simp [Region.binds] at haf
            have e3 := ((j4 3 (by simp [haf]))).trans E3.out
            replace j4 := Lib.hid j4
            clear haf hfb
            rw [HLIT.out]
            go_simp
            exact hK.out _ _ (RS.next (wv := wv) (vs := vs) 7 (x := undef) (by rw [HLIT.out]; simp only [upv, e3, Nat.reduceBEq, cond_true, cond_false]) (by rw [HG.out]; exact j4.out) hM.out (by rw [HG.out]; exact fun _ _ h => h) (by rw [HG.out]; exact E7.out.symm))
          · intro bf ac wv hfb haf hJ K' hK
            obtain ⟨vs, rfl, hM, j4⟩ := hJ
            replace hK := Lib.hid hK
            replace hM := Lib.hid hM
            rw [HG.out] at j4
            simp [Region.binds] at haf
            have e3 := ((j4 3 (by simp [haf]))).trans E3.out
            replace j4 := Lib.hid j4
            clear haf hfb
            rw [HLIT.out]
            go_simp
            exact hK.out _ _ (RS.next (wv := wv) (vs := vs) 8 (x := undef) (by rw [HLIT.out]; simp only [upv, e3, Nat.reduceBEq, cond_true, cond_false]) (by rw [HG.out]; exact j4.out) hM.out (by rw [HG.out]; exact fun _ _ h => h) (by rw [HG.out]; exact E8.out.symm))
          · intro bf ac wv hfb haf hJ K' hK
            obtain ⟨vs, rfl, hM, j4⟩ := hJ
            replace hK := Lib.hid hK
            replace hM := Lib.hid hM
            rw [HG.out] at j4
            simp [Region.binds] at haf
            have e3 := ((j4 3 (by simp [haf]))).trans E3.out
            replace j4 := Lib.hid j4
            clear haf hfb
            rw [HLIT.out]
            go_simp
            exact hK.out _ _ (RS.next (wv := wv) (vs := vs) 9 (x := undef) (by rw [HLIT.out]; simp only [upv, e3, Nat.reduceBEq, cond_true, cond_false]) (by rw [HG.out]; exact j4.out) hM.out (by rw [HG.out]; exact fun _ _ h => h) (by rw [HG.out]; exact E9.out.symm))
          · intro bf ac wv hfb haf hJ K' hK
            obtain ⟨vs, rfl, hM, j4⟩ := hJ
            replace hK := Lib.hid hK
            replace hM := Lib.hid hM
            rw [HG.out] at j4
            simp [Region.binds] at haf
            have e3 := ((j4 3 (by simp [haf]))).trans E3.out
            replace j4 := Lib.hid j4
            clear haf hfb
            rw [HLIT.out]
            go_simp
            exact hK.out _ _ (RS.next (wv := wv) (vs := vs) 10 (x := .bool true) (by rw [HLIT.out]; simp only [upv, e3, Nat.reduceBEq, cond_true, cond_false]) (by rw [HG.out]; exact j4.out) hM.out (by rw [HG.out]; exact fun _ _ h => h) (by rw [HG.out]; exact E10.out.symm))
        · intro bf ac wv hall hJ
          obtain ⟨vs, rfl, hM, j4⟩ := hJ
          rw [HG.out] at j4
          have h10 := ((j4 10 (hall 10 (by decide)))).trans E10.out
          clear j4 hall
          rw [HLIT.out]
          dsimp only
          rw [h10]
          have HB7 := Lib.hid (keep2 hM HBX.out)
          have HR7 := Lib.hid (HR3.out.step hM)
          have r0 := HR7.out.c 0 rfl
          have r1 := HR7.out.c 1 rfl
          have r2 := HR7.out.c 2 rfl
          have r3 := HR7.out.c 3 rfl
          have r4 := HR7.out.c 4 rfl
          have r5 := HR7.out.c 5 rfl
          have p0 := HR7.out.f 0 (by simp)
          have p1 := HR7.out.f 1 (by simp)
          have p2 := HR7.out.f 2 (by simp)
          have p3 := HR7.out.f 3 (by simp)
          have p4 := HR7.out.f 4 (by simp)
          have p5 := HR7.out.f 5 (by simp)
          have rz := HR7.out.2.2
          go_wp2_with fail
          refine (fun (h : ∀ W : World, Cs W w.heap.size #[.int .i64 0, .int .i64 0, .int .i64 0, .int .i64 0, .slice none 0 0, .int .i64 0] → Below w.heap.size w W → bodyPost Try.prog Try.f14 _ Exit.ret _ W) => h _ (cs_store6 HR7.out _ _ _ _ _ _) (bel_store6 HB7.out (Nat.le_refl _) _ _ _ _ _ _)) ?_
          intro W hC hB
          have k0 : W.cell? ⟨w.heap.size, 0, none⟩ = some (.int .i64 0) := hC.c 0 rfl
          have k1 : W.cell? ⟨w.heap.size, 1, none⟩ = some (.int .i64 0) := hC.c 1 rfl
          have k2 : W.cell? ⟨w.heap.size, 2, none⟩ = some (.int .i64 0) := hC.c 2 rfl
          have k3 : W.cell? ⟨w.heap.size, 3, none⟩ = some (.int .i64 0) := hC.c 3 rfl
          have k4 : W.cell? ⟨w.heap.size, 4, none⟩ = some (.slice none 0 0) := hC.c 4 rfl
          have k5 : W.cell? ⟨w.heap.size, 5, none⟩ = some (.int .i64 0) := hC.c 5 rfl
          clear r0 r1 r2 r3 r4 r5 p0 p1 p2 p3 p4 p5 rz
          exact bodyPost_ret (v := .tuple #[.agg #[.int .i64 0, .int .i64 0, .int .i64 0, .int .i64 0, .slice none 0 0, .int .i64 0], .int .i64 24]) (by simp [results, Try.results14, go_sem, k0, k1, k2, k3, k4, k5]) rfl (DcQ.no HDD.out ⟨_, rfl, ints_nil _, hB⟩)
      · have HVT := Lib.hid hv
        have HEB := Lib.hid (encO_by A B C D (bodyL l k) T)
        obtain ⟨el, hel⟩ : ∃ z, encO A B C D (bodyL l k) T = z := ⟨_, rfl⟩
        have HEN := Lib.hid hel
        have HEL := Lib.hid (show IsBy el by rw [← hel]; exact HEB.out)
        rw [hel] at HDE
        clear hv hel HEB
        obtain ⟨sl, hsl⟩ : ∃ s, strOfNums l = s := ⟨_, rfl⟩
        have HSL := Lib.hid hsl
        by_cases hE : el = l
        · have HDD := Lib.hid (show decE l k = l by rw [HDE.out, hE])
          have HSE := Lib.hid (show strOfNums (encO A B C D (bodyL l k) T) = sl by rw [HEN.out, hE]; exact hsl)
          clear hE hsl
          go_wp2_with fail
          go_upto_region 8 with fail
          go_region_law (first | (go_simp; go_at_call 18; refine (rvalid_any A B C D _ (bodyL l k) T _ (HI5.out.step (below_drew _ _)) _ HVT.out).mono ?_; rintro e w7 ⟨rfl, b7⟩; have HC7 := Lib.hid (HCF.out.step (keep2 b7 (below_drew _ wr))); have HB7 := Lib.hid (keep2 b7 (keep2 (below_drew _ wr) HBX.out)); have HR7 := Lib.hid (HR3.out.step (keep2 b7 (below_drew _ wr))); have HV7 := Lib.hid (HVW.out.step (keep2 b7 (below_drew _ wr))); have HI7 := Lib.hid (HI5.out.step (keep2 b7 (below_drew _ wr))); have HRR7 := Lib.hid (row_step HRW.out (keep2 b7 (below_drew _ wr))); have d0 := HC7.out.c 0 rfl; have d1 := HC7.out.c 1 rfl; have d2 := HC7.out.c 2 rfl; have d3 := HC7.out.c 3 rfl; have d4 := HC7.out.c 4 rfl; have d5 := HC7.out.c 5 rfl; have dz := HC7.out.2.2; have cv7 := conv_bys HV7.out; rw [HSL.out] at cv7; clear b7) | (go_simp; go_at_call 23; refine (rencode_any A B C D _ (bodyL l k) T _ HI7.out).mono ?_; rintro e w8 ⟨u, rfl, hu, b8⟩; have HB8 := Lib.hid (keep2 b8 HB7.out); replace HR7 := Lib.hid (HR7.out.step b8); replace HRR7 := Lib.hid (row_step HRR7.out b8); have cv8 := conv_bys (HV7.out.step b8); rw [HSL.out] at cv8; have cu8 := conv_bys (bys_of_row hu); rw [HSE.out] at cu8; obtain ⟨ea, ec, rfl⟩ := row_slice hu; rw [HEN.out] at cu8; rw [HEN.out]; have g0 := (HC7.out.step b8).c 0 rfl; have g1 := (HC7.out.step b8).c 1 rfl; have g2 := (HC7.out.step b8).c 2 rfl; have g3 := (HC7.out.step b8).c 3 rfl; have g4 := (HC7.out.step b8).c 4 rfl; have g5 := (HC7.out.step b8).c 5 rfl; have gz := (HC7.out.step b8).2.2; have r0 := HR7.out.c 0 rfl; have r1 := HR7.out.c 1 rfl; have r2 := HR7.out.c 2 rfl; have r3 := HR7.out.c 3 rfl; have r4 := HR7.out.c 4 rfl; have r5 := HR7.out.c 5 rfl; have p0 := HR7.out.f 0 (by simp); have p1 := HR7.out.f 1 (by simp); have p2 := HR7.out.f 2 (by simp); have p3 := HR7.out.f 3 (by simp); have p4 := HR7.out.f 4 (by simp); have p5 := HR7.out.f 5 (by simp); have rz := HR7.out.2.2; clear hu b8))
          all_goals clear e0 e1 e2 e3 e4 e5 ez x16 g7 g8 t2
          all_goals go_wp2_with fail
          all_goals
            refine (fun (h : ∀ W : World, Cs W w.heap.size #[.int .i64 A, .int .i64 B, .int .i64 C, .int .i64 D, .slice ba (bodyL l k).length bc, .int .i64 T] → IntsAt W (.slice ba (bodyL l k).length bc) (bodyL l k) → Below w.heap.size w W → bodyPost Try.prog Try.f14 _ Exit.ret _ W) => h _ (cs_store6 HR7.out _ _ _ _ _ _) (ints_of_row (row_store6 HRR7.out (Nat.lt_succ_of_lt (Nat.lt_succ_self _)) _ _ _ _ _ _)) (bel_store6 HB8.out (Nat.le_refl _) _ _ _ _ _ _)) ?_
            intro W hC hI hB
            have k0 : W.cell? ⟨w.heap.size, 0, none⟩ = some (.int .i64 A) := hC.c 0 rfl
            have k1 : W.cell? ⟨w.heap.size, 1, none⟩ = some (.int .i64 B) := hC.c 1 rfl
            have k2 : W.cell? ⟨w.heap.size, 2, none⟩ = some (.int .i64 C) := hC.c 2 rfl
            have k3 : W.cell? ⟨w.heap.size, 3, none⟩ = some (.int .i64 D) := hC.c 3 rfl
            have k4 : W.cell? ⟨w.heap.size, 4, none⟩ = some (.slice ba (bodyL l k).length bc) := hC.c 4 rfl
            have k5 : W.cell? ⟨w.heap.size, 5, none⟩ = some (.int .i64 T) := hC.c 5 rfl
            clear r0 r1 r2 r3 r4 r5 p0 p1 p2 p3 p4 p5 rz
            exact bodyPost_ret (v := .tuple #[.agg #[.int .i64 A, .int .i64 B, .int .i64 C, .int .i64 D, .slice ba (bodyL l k).length bc, .int .i64 T], .int .i64 0]) (by simp [results, Try.results14, go_sem, k0, k1, k2, k3, k4, k5]) rfl (DcQ.yes HDD.out ⟨_, by rw [HNM.out.1, HNM.out.2.1, HNM.out.2.2.1, HNM.out.2.2.2.1, HNM.out.2.2.2.2], hI, hB⟩)
        · have HDD := Lib.hid (show ¬ decE l k = l from fun e => hE (by rw [← HDE.out, e]))
          obtain ⟨se, hse⟩ : ∃ s, strOfNums el = s := ⟨_, rfl⟩
          have HSE := Lib.hid (show strOfNums (encO A B C D (bodyL l k) T) = se by rw [HEN.out]; exact hse)
          have q3 : ¬ se.toList = sl.toList := fun e => hE (str_inj HEL.out HBY.out (by rw [hse, hsl]; exact ba_ext e))
          have q4 : (se.toList == sl.toList) = false := by simpa using q3
          have q5 : (se.toList != sl.toList) = true := by simpa using q3
          clear hE hsl hse
          go_wp2_with fail
          go_upto_region 8 with fail
          go_region_law (first | (go_simp; go_at_call 18; refine (rvalid_any A B C D _ (bodyL l k) T _ (HI5.out.step (below_drew _ _)) _ HVT.out).mono ?_; rintro e w7 ⟨rfl, b7⟩; have HC7 := Lib.hid (HCF.out.step (keep2 b7 (below_drew _ wr))); have HB7 := Lib.hid (keep2 b7 (keep2 (below_drew _ wr) HBX.out)); have HR7 := Lib.hid (HR3.out.step (keep2 b7 (below_drew _ wr))); have HV7 := Lib.hid (HVW.out.step (keep2 b7 (below_drew _ wr))); have HI7 := Lib.hid (HI5.out.step (keep2 b7 (below_drew _ wr))); have HRR7 := Lib.hid (row_step HRW.out (keep2 b7 (below_drew _ wr))); have d0 := HC7.out.c 0 rfl; have d1 := HC7.out.c 1 rfl; have d2 := HC7.out.c 2 rfl; have d3 := HC7.out.c 3 rfl; have d4 := HC7.out.c 4 rfl; have d5 := HC7.out.c 5 rfl; have dz := HC7.out.2.2; have cv7 := conv_bys HV7.out; rw [HSL.out] at cv7; clear b7) | (go_simp; go_at_call 23; refine (rencode_any A B C D _ (bodyL l k) T _ HI7.out).mono ?_; rintro e w8 ⟨u, rfl, hu, b8⟩; have HB8 := Lib.hid (keep2 b8 HB7.out); replace HR7 := Lib.hid (HR7.out.step b8); replace HRR7 := Lib.hid (row_step HRR7.out b8); have cv8 := conv_bys (HV7.out.step b8); rw [HSL.out] at cv8; have cu8 := conv_bys (bys_of_row hu); rw [HSE.out] at cu8; obtain ⟨ea, ec, rfl⟩ := row_slice hu; rw [HEN.out] at cu8; rw [HEN.out]; have g0 := (HC7.out.step b8).c 0 rfl; have g1 := (HC7.out.step b8).c 1 rfl; have g2 := (HC7.out.step b8).c 2 rfl; have g3 := (HC7.out.step b8).c 3 rfl; have g4 := (HC7.out.step b8).c 4 rfl; have g5 := (HC7.out.step b8).c 5 rfl; have gz := (HC7.out.step b8).2.2; have r0 := HR7.out.c 0 rfl; have r1 := HR7.out.c 1 rfl; have r2 := HR7.out.c 2 rfl; have r3 := HR7.out.c 3 rfl; have r4 := HR7.out.c 4 rfl; have r5 := HR7.out.c 5 rfl; have p0 := HR7.out.f 0 (by simp); have p1 := HR7.out.f 1 (by simp); have p2 := HR7.out.f 2 (by simp); have p3 := HR7.out.f 3 (by simp); have p4 := HR7.out.f 4 (by simp); have p5 := HR7.out.f 5 (by simp); have rz := HR7.out.2.2; clear hu b8))
          all_goals clear e0 e1 e2 e3 e4 e5 ez x16 g7 g8 t2
          all_goals go_wp2_with fail
          all_goals
            refine (fun (h : ∀ W : World, Cs W w.heap.size #[.int .i64 0, .int .i64 0, .int .i64 0, .int .i64 0, .slice none 0 0, .int .i64 0] → Below w.heap.size w W → bodyPost Try.prog Try.f14 _ Exit.ret _ W) => h _ (cs_store6 HR7.out _ _ _ _ _ _) (bel_store6 HB8.out (Nat.le_refl _) _ _ _ _ _ _)) ?_
            intro W hC hB
            have k0 : W.cell? ⟨w.heap.size, 0, none⟩ = some (.int .i64 0) := hC.c 0 rfl
            have k1 : W.cell? ⟨w.heap.size, 1, none⟩ = some (.int .i64 0) := hC.c 1 rfl
            have k2 : W.cell? ⟨w.heap.size, 2, none⟩ = some (.int .i64 0) := hC.c 2 rfl
            have k3 : W.cell? ⟨w.heap.size, 3, none⟩ = some (.int .i64 0) := hC.c 3 rfl
            have k4 : W.cell? ⟨w.heap.size, 4, none⟩ = some (.slice none 0 0) := hC.c 4 rfl
            have k5 : W.cell? ⟨w.heap.size, 5, none⟩ = some (.int .i64 0) := hC.c 5 rfl
            clear r0 r1 r2 r3 r4 r5 p0 p1 p2 p3 p4 p5 rz
            exact bodyPost_ret (v := .tuple #[.agg #[.int .i64 0, .int .i64 0, .int .i64 0, .int .i64 0, .slice none 0 0, .int .i64 0], .int .i64 24]) (by simp [results, Try.results14, go_sem, k0, k1, k2, k3, k4, k5]) rfl (DcQ.no HDD.out ⟨_, rfl, ints_nil _, hB⟩)

theorem rdecode_bad (v : Value) (l : List Int) (w : World) (h : BysAt w v l) (hb : IsBy l) (h9 : l.length ≤ 2000) (hx : badL l = true) : Calls Try.prog 14 #[v] w (DcP w 0 0 0 0 [] 0 24) := by
  by_cases h1 : l.length < 23
  · exact rdecode_short v l w h hb h9 h1
  · refine rdecode_len v l w h hb h9 (by omega) fun e => ?_
    unfold badL at hx
    simp [h1] at hx
    exact hx (by simpa using e)
theorem rdecode_good (v : Value) (l : List Int) (w : World) (h : BysAt w v l) (hb : IsBy l) (h9 : l.length ≤ 2000) (hx : badL l = false) : ∃ n : Nat, l.getD 16 0 = n ∧ l.length = 23 + 4 * n ∧ Calls Try.prog 14 #[v] w (DcQ w l n) := by
  unfold badL at hx
  rw [Bool.or_eq_false_iff, Bool.not_eq_false', decide_eq_true_iff] at hx
  have hg := by_get hb 16
  obtain ⟨n, hn⟩ := Int.eq_ofNat_of_zero_le hg.1
  have hl : l.length = 23 + 4 * n := by have := hx.2; rw [hn] at this; omega
  exact ⟨n, hn, hl, rdecode_main v l w h hb h9 n hn hl⟩
end Go.Proofs.Ytebeaekiaikgmaa
