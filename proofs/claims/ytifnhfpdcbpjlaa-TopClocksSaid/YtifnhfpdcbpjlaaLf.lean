/- Leases: 'Propose', of the program. -/
import Derived.Test.YtifnhfpdcbpjlaaLe
namespace Go.Proofs.Ytifnhfpdcbpjlaa
open Go.RowKit

theorem isMajority_q (n m : Nat) (b : Bool) (hb : decide (m < 2 * n) = b) (h2 : n ≤ 1000000000) (w : World) : Calls Try.prog 20 #[.int .i64 (n : Int), .int .i64 (m : Int)] w fun e w' => e = .returned (.bool b) ∧ w = w' := by
  have h := isMajority_any (n : Int) (m : Int) w (by omega) (by omega)
  rw [show decide ((m : Int) < 2 * (n : Int)) = b by rw [← hb]; exact decide_eq_decide.2 (by omega)] at h
  exact h
set_option maxRecDepth 100000 in
set_option maxHeartbeats 4000000 in
theorem propose_few (v va : Value) (L : List Vo) (A : List Bool) (hub now len : Int) (w : World) (hl : VosAt w v L) (ha : BosAt w va A) (h : argB L.length A.length hub now len = true) (hM : ¬ L.length < 2 * (yesN L A L.length).length) :
    Calls Try.prog 14 #[v, va, .int .i64 hub, .int .i64 now, .int .i64 len] w (LPost 0 0 0 22 w) := by
  have hla := Lib.hid hl
  have haa := Lib.hid ha
  obtain ⟨a, cap, rfl, hm, -⟩ := hl
  obtain ⟨aa, capa, rfl, hma, -⟩ := ha
  unfold maxLen at hm hma
  obtain ⟨h0, h1, h2, h3, h4⟩ := arg_all h
  have HN := Lib.hid (show A.length = L.length by omega)
  have h9 : L.length ≤ 3 := by have := (inr_iff.1 h0).2; omega
  have t := tm_of h3
  obtain ⟨t1, t2⟩ := t
  have l12 := inr_iff.1 h4
  obtain ⟨l1, l2⟩ := l12
  have H0 := Lib.hid h0
  have H2 := Lib.hid h2
  have H3 := Lib.hid h3
  have H4 := Lib.hid h4
  clear h h0 h1 h2 h3 h4
  have HC := Lib.hid (answering_any _ _ L A (w.alloc (.cells #[.int .i64 0, .int .i64 0, .int .i64 0] 24)) (hla.out.step (al _ _)) (haa.out.step (al _ _)) HN.out (by omega))
  have HR := Lib.hid (Cs.new w w.heap.size #[.int .i64 0, .int .i64 0, .int .i64 0] 24 rfl)
  have HM := Lib.hid (show decide (L.length < 2 * (yesN L A L.length).length) = false by simpa using hM)
  have HY9 := Lib.hid (show (yesN L A L.length).length ≤ 1000000000 by have := yesN_len L A L.length; omega)
  clear hM
  have HLL := HN.out
  rw [HLL] at HC ⊢
  clear HLL
  go_enter Try.func14, Try.ntmps14
  go_wp2_with fail
  refine (within_q _ 2 3 _ H0.out _).mono ?_
  rintro e w' ⟨rfl, rfl⟩
  go_wp2_with fail
  refine (within_q hub 0 _ _ H2.out _).mono ?_
  rintro e w' ⟨rfl, rfl⟩
  go_wp2_with fail
  refine (isTime_q now _ H3.out _).mono ?_
  rintro e w' ⟨rfl, rfl⟩
  go_wp2_with fail
  refine (within_q len 1 1000000 _ H4.out _).mono ?_
  rintro e w' ⟨rfl, rfl⟩
  go_wp2_with fail
  refine HC.out.mono ?_
  rintro e w1 ⟨u, rfl, hu, b1⟩
  have HU := Lib.hid hu
  obtain ⟨au, cu, rfl, hmu, -⟩ := hu
  unfold maxLen at hmu
  have HR1 := Lib.hid (HR.out.step b1)
  have HB1 := Lib.hid (keep2 b1 (al _ _))
  have hz := HR1.out.2.2
  clear b1
  have x0 := HR1.out.c 0 rfl
  have x1 := HR1.out.c 1 rfl
  have x2 := HR1.out.c 2 rfl
  have z0 := HR1.out.f 0 (by simp)
  have z1 := HR1.out.f 1 (by simp)
  have z2 := HR1.out.f 2 (by simp)
  go_wp2_with fail
  refine (isMajority_q _ _ _ HM.out HY9.out _).mono ?_
  rintro e w' ⟨rfl, rfl⟩
  go_wp2
  exact bodyPost_ret (v := .tuple #[.agg #[.int .i64 0, .int .i64 0, .int .i64 0], .int .i64 22]) (by simp [results, Try.results14, go_sem, x0, x1, x2]) rfl (LPost.mk (by repeat (first | with_reducible exact HB1.out | with_reducible exact Below.refl _ _ | ((with_reducible refine Below.setCell ?_ ?_ _); rotate_left; focus (first | (simp; done) | (simp; omega) | omega)) | ((with_reducible refine Below.alloc ?_ ?_ _); rotate_left; focus (first | (simp; done) | (simp; omega) | omega)) | with_reducible refine Below.trans ?_ (below_drewN' _ _ _) | with_reducible refine Below.trans ?_ (below_drew _ _))))
set_option maxRecDepth 100000 in
set_option maxHeartbeats 8000000 in
theorem propose_lim (v va : Value) (L : List Vo) (A : List Bool) (hub now len : Int) (w : World) (hl : VosAt w v L) (ha : BosAt w va A) (h : argB L.length A.length hub now len = true) (hM : L.length < 2 * (yesN L A L.length).length) (hG : 1000000000 ≤ gN (yesN L A L.length) (yesN L A L.length).length) :
    Calls Try.prog 14 #[v, va, .int .i64 hub, .int .i64 now, .int .i64 len] w (LPost 0 0 0 2 w) := by
  have hla := Lib.hid hl
  have haa := Lib.hid ha
  obtain ⟨a, cap, rfl, hm, -⟩ := hl
  obtain ⟨aa, capa, rfl, hma, -⟩ := ha
  unfold maxLen at hm hma
  obtain ⟨h0, h1, h2, h3, h4⟩ := arg_all h
  have HN := Lib.hid (show A.length = L.length by omega)
  have h9 : L.length ≤ 3 := by have := (inr_iff.1 h0).2; omega
  have t := tm_of h3
  obtain ⟨t1, t2⟩ := t
  have l12 := inr_iff.1 h4
  obtain ⟨l1, l2⟩ := l12
  have H0 := Lib.hid h0
  have H2 := Lib.hid h2
  have H3 := Lib.hid h3
  have H4 := Lib.hid h4
  clear h h0 h1 h2 h3 h4
  have HC := Lib.hid (answering_any _ _ L A (w.alloc (.cells #[.int .i64 0, .int .i64 0, .int .i64 0] 24)) (hla.out.step (al _ _)) (haa.out.step (al _ _)) HN.out (by omega))
  have HR := Lib.hid (Cs.new w w.heap.size #[.int .i64 0, .int .i64 0, .int .i64 0] 24 rfl)
  have HM := Lib.hid (show decide (L.length < 2 * (yesN L A L.length).length) = true by simpa using hM)
  have HY9 := Lib.hid (show (yesN L A L.length).length ≤ 1000000000 by have := yesN_len L A L.length; omega)
  have hYp : 0 < (yesN L A L.length).length := by omega
  have HG := Lib.hid hG
  clear hG hM
  have HLL := HN.out
  rw [HLL] at HC ⊢
  clear HLL
  go_enter Try.func14, Try.ntmps14
  go_wp2_with fail
  refine (within_q _ 2 3 _ H0.out _).mono ?_
  rintro e w' ⟨rfl, rfl⟩
  go_wp2_with fail
  refine (within_q hub 0 _ _ H2.out _).mono ?_
  rintro e w' ⟨rfl, rfl⟩
  go_wp2_with fail
  refine (isTime_q now _ H3.out _).mono ?_
  rintro e w' ⟨rfl, rfl⟩
  go_wp2_with fail
  refine (within_q len 1 1000000 _ H4.out _).mono ?_
  rintro e w' ⟨rfl, rfl⟩
  go_wp2_with fail
  refine HC.out.mono ?_
  rintro e w1 ⟨u, rfl, hu, b1⟩
  have HU := Lib.hid hu
  obtain ⟨au, cu, rfl, hmu, -⟩ := hu
  unfold maxLen at hmu
  have HR1 := Lib.hid (HR.out.step b1)
  have HB1 := Lib.hid (keep2 b1 (al _ _))
  have hz := HR1.out.2.2
  clear b1
  have x0 := HR1.out.c 0 rfl
  have x1 := HR1.out.c 1 rfl
  have x2 := HR1.out.c 2 rfl
  have z0 := HR1.out.f 0 (by simp)
  have z1 := HR1.out.f 1 (by simp)
  have z2 := HR1.out.f 2 (by simp)
  go_wp2_with fail
  refine (isMajority_q _ _ _ HM.out HY9.out _).mono ?_
  rintro e w' ⟨rfl, rfl⟩
  clear HM
  clear x0 x1 x2 z0 z1 z2
  generalize yesN L A L.length = Y at *
  obtain ⟨b, off, rfl, hcs⟩ : ∃ b off, au = some ⟨b, off, none⟩ ∧ ∀ (i : Nat) (x : Vo), Y[i]? = some x →
    w1.cell? ⟨b, off + i * 3, none⟩ = some (.int .i64 x.f) ∧ w1.cell? ⟨b, off + i * 3 + 1, none⟩ = some (.int .i64 x.h) ∧ w1.cell? ⟨b, off + i * 3 + 2, none⟩ = some (.int .i64 x.u) := by
    obtain ⟨a2, c2, hv2, -, hc2⟩ := HU.out
    obtain ⟨rfl, rfl⟩ : au = a2 ∧ cu = c2 := by simpa using hv2
    exact hc2 (by intro h; rw [h] at hYp; simp at hYp)
  have HCS := Lib.hid hcs
  obtain ⟨y0, -, -⟩ := hcs 0 _ (vo_get hYp)
  rw [Nat.zero_mul, Nat.add_zero] at y0
  clear hcs
  have HY0 := Lib.hid (show (Y.getD 0 zV).f = gN Y 0 from rfl)
  generalize (Y.getD 0 zV).f = y at *
  go_wp2_with fail
  go_loopw [13, 62] (fun g i wr => ∃ k : Nat, k ≤ Y.length ∧ i = .int .i64 k ∧ g = .int .i64 (gN Y k) ∧ Hid (Below w1.heap.size w1 wr)) (fun _ i _ => Y.length - (intOf i).toNat)
  case atStart => exact ⟨0, by omega, rfl, by rw [HY0.out], Below.refl _ _⟩
  case round =>
    clear y0
    obtain ⟨k, hk, rfl, rfl, HB⟩ := hrel
    have hsz := HB.out.size
    by_cases hlt : k < Y.length
    · obtain ⟨x0, x1, x2⟩ := HCS.out k _ (vo_get hlt)
      have x0 := keep1 HB.out x0
      have x1 := keep1 HB.out x1
      have x2 := keep1 HB.out x2
      have HT := Lib.hid (show gN Y (k + 1) = mxi (gN Y k) (Y.getD k zV).f from rfl)
      have HB1 := Lib.hid (HB.out.alloc hsz (.cells #[.int .i64 (Y.getD k zV).f, .int .i64 (Y.getD k zV).h, .int .i64 (Y.getD k zV).u] 32))
      generalize Y.getD k zV = x at *
      obtain ⟨g, hg⟩ : ∃ g, gN Y k = g := ⟨_, rfl⟩
      rw [hg] at HT ⊢
      clear hg
      by_cases hx : g < x.f
      · have HV := Lib.hid (show gN Y (k + 1) = x.f by rw [HT.out]; unfold mxi; rw [if_pos hx])
        go_wp2
        go_roundw
        case rel => exact ⟨k + 1, by omega, by go_num, by rw [HV.out], HB1⟩
        case measure => simp [intOf]; omega
      · have HV := Lib.hid (show gN Y (k + 1) = g by rw [HT.out]; unfold mxi; rw [if_neg hx])
        go_wp2
        go_roundw
        case rel => exact ⟨k + 1, by omega, by go_num, by rw [HV.out], HB1⟩
        case measure => simp [intOf]; omega
    · obtain rfl : k = Y.length := by omega
      have HR2 := Lib.hid (HR1.out.step HB.out)
      have HB2 := Lib.hid (keep2 HB.out HB1.out)
      have hz2 := HR2.out.2.2
      clear HB HB1
      have x0 := HR2.out.c 0 rfl
      have x1 := HR2.out.c 1 rfl
      have x2 := HR2.out.c 2 rfl
      have z0 := HR2.out.f 0 (by simp)
      have z1 := HR2.out.f 1 (by simp)
      have z2 := HR2.out.f 2 (by simp)
      have hG := HG.out
      obtain ⟨g, hg⟩ : ∃ g, gN Y Y.length = g := ⟨_, rfl⟩
      rw [hg] at hG ⊢
      clear hg HG HU
      go_wp2
      exact bodyPost_ret (v := .tuple #[.agg #[.int .i64 0, .int .i64 0, .int .i64 0], .int .i64 2]) (by simp [results, Try.results14, go_sem, x0, x1, x2]) rfl (LPost.mk (by repeat (first | with_reducible exact HB2.out | with_reducible exact Below.refl _ _ | ((with_reducible refine Below.setCell ?_ ?_ _); rotate_left; focus (first | (simp; done) | (simp; omega) | omega)) | ((with_reducible refine Below.alloc ?_ ?_ _); rotate_left; focus (first | (simp; done) | (simp; omega) | omega)) | with_reducible refine Below.trans ?_ (below_drewN' _ _ _) | with_reducible refine Below.trans ?_ (below_drew _ _))))
set_option maxRecDepth 100000 in
set_option maxHeartbeats 8000000 in
theorem propose_ok (v va : Value) (L : List Vo) (A : List Bool) (hub now len : Int) (w : World) (hl : VosAt w v L) (ha : BosAt w va A) (h : argB L.length A.length hub now len = true) (hM : L.length < 2 * (yesN L A L.length).length) (hG : ¬ 1000000000 ≤ gN (yesN L A L.length) (yesN L A L.length).length) (F : Int) (hF : IntKind.i64.wrap (gN (yesN L A L.length) (yesN L A L.length).length + 1) = F) :
    Calls Try.prog 14 #[v, va, .int .i64 hub, .int .i64 now, .int .i64 len] w (LPost hub F (now + len) 0 w) := by
  have hla := Lib.hid hl
  have haa := Lib.hid ha
  obtain ⟨a, cap, rfl, hm, -⟩ := hl
  obtain ⟨aa, capa, rfl, hma, -⟩ := ha
  unfold maxLen at hm hma
  obtain ⟨h0, h1, h2, h3, h4⟩ := arg_all h
  have HN := Lib.hid (show A.length = L.length by omega)
  have h9 : L.length ≤ 3 := by have := (inr_iff.1 h0).2; omega
  have t := tm_of h3
  obtain ⟨t1, t2⟩ := t
  have l12 := inr_iff.1 h4
  obtain ⟨l1, l2⟩ := l12
  have H0 := Lib.hid h0
  have H2 := Lib.hid h2
  have H3 := Lib.hid h3
  have H4 := Lib.hid h4
  clear h h0 h1 h2 h3 h4
  have HC := Lib.hid (answering_any _ _ L A (w.alloc (.cells #[.int .i64 0, .int .i64 0, .int .i64 0] 24)) (hla.out.step (al _ _)) (haa.out.step (al _ _)) HN.out (by omega))
  have HR := Lib.hid (Cs.new w w.heap.size #[.int .i64 0, .int .i64 0, .int .i64 0] 24 rfl)
  have HM := Lib.hid (show decide (L.length < 2 * (yesN L A L.length).length) = true by simpa using hM)
  have HY9 := Lib.hid (show (yesN L A L.length).length ≤ 1000000000 by have := yesN_len L A L.length; omega)
  have hYp : 0 < (yesN L A L.length).length := by omega
  have HG := Lib.hid hG
  clear hG hM
  have HF := Lib.hid hF
  clear hF
  have HLL := HN.out
  rw [HLL] at HC ⊢
  clear HLL
  go_enter Try.func14, Try.ntmps14
  go_wp2_with fail
  refine (within_q _ 2 3 _ H0.out _).mono ?_
  rintro e w' ⟨rfl, rfl⟩
  go_wp2_with fail
  refine (within_q hub 0 _ _ H2.out _).mono ?_
  rintro e w' ⟨rfl, rfl⟩
  go_wp2_with fail
  refine (isTime_q now _ H3.out _).mono ?_
  rintro e w' ⟨rfl, rfl⟩
  go_wp2_with fail
  refine (within_q len 1 1000000 _ H4.out _).mono ?_
  rintro e w' ⟨rfl, rfl⟩
  go_wp2_with fail
  refine HC.out.mono ?_
  rintro e w1 ⟨u, rfl, hu, b1⟩
  have HU := Lib.hid hu
  obtain ⟨au, cu, rfl, hmu, -⟩ := hu
  unfold maxLen at hmu
  have HR1 := Lib.hid (HR.out.step b1)
  have HB1 := Lib.hid (keep2 b1 (al _ _))
  have hz := HR1.out.2.2
  clear b1
  have x0 := HR1.out.c 0 rfl
  have x1 := HR1.out.c 1 rfl
  have x2 := HR1.out.c 2 rfl
  have z0 := HR1.out.f 0 (by simp)
  have z1 := HR1.out.f 1 (by simp)
  have z2 := HR1.out.f 2 (by simp)
  go_wp2_with fail
  refine (isMajority_q _ _ _ HM.out HY9.out _).mono ?_
  rintro e w' ⟨rfl, rfl⟩
  clear HM
  clear x0 x1 x2 z0 z1 z2
  generalize yesN L A L.length = Y at *
  obtain ⟨b, off, rfl, hcs⟩ : ∃ b off, au = some ⟨b, off, none⟩ ∧ ∀ (i : Nat) (x : Vo), Y[i]? = some x →
    w1.cell? ⟨b, off + i * 3, none⟩ = some (.int .i64 x.f) ∧ w1.cell? ⟨b, off + i * 3 + 1, none⟩ = some (.int .i64 x.h) ∧ w1.cell? ⟨b, off + i * 3 + 2, none⟩ = some (.int .i64 x.u) := by
    obtain ⟨a2, c2, hv2, -, hc2⟩ := HU.out
    obtain ⟨rfl, rfl⟩ : au = a2 ∧ cu = c2 := by simpa using hv2
    exact hc2 (by intro h; rw [h] at hYp; simp at hYp)
  have HCS := Lib.hid hcs
  obtain ⟨y0, -, -⟩ := hcs 0 _ (vo_get hYp)
  rw [Nat.zero_mul, Nat.add_zero] at y0
  clear hcs
  have HY0 := Lib.hid (show (Y.getD 0 zV).f = gN Y 0 from rfl)
  generalize (Y.getD 0 zV).f = y at *
  go_wp2_with fail
  go_loopw [13, 62] (fun g i wr => ∃ k : Nat, k ≤ Y.length ∧ i = .int .i64 k ∧ g = .int .i64 (gN Y k) ∧ Hid (Below w1.heap.size w1 wr)) (fun _ i _ => Y.length - (intOf i).toNat)
  case atStart => exact ⟨0, by omega, rfl, by rw [HY0.out], Below.refl _ _⟩
  case round =>
    clear y0
    obtain ⟨k, hk, rfl, rfl, HB⟩ := hrel
    have hsz := HB.out.size
    by_cases hlt : k < Y.length
    · obtain ⟨x0, x1, x2⟩ := HCS.out k _ (vo_get hlt)
      have x0 := keep1 HB.out x0
      have x1 := keep1 HB.out x1
      have x2 := keep1 HB.out x2
      have HT := Lib.hid (show gN Y (k + 1) = mxi (gN Y k) (Y.getD k zV).f from rfl)
      have HB1 := Lib.hid (HB.out.alloc hsz (.cells #[.int .i64 (Y.getD k zV).f, .int .i64 (Y.getD k zV).h, .int .i64 (Y.getD k zV).u] 32))
      generalize Y.getD k zV = x at *
      obtain ⟨g, hg⟩ : ∃ g, gN Y k = g := ⟨_, rfl⟩
      rw [hg] at HT ⊢
      clear hg
      by_cases hx : g < x.f
      · have HV := Lib.hid (show gN Y (k + 1) = x.f by rw [HT.out]; unfold mxi; rw [if_pos hx])
        go_wp2
        go_roundw
        case rel => exact ⟨k + 1, by omega, by go_num, by rw [HV.out], HB1⟩
        case measure => simp [intOf]; omega
      · have HV := Lib.hid (show gN Y (k + 1) = g by rw [HT.out]; unfold mxi; rw [if_neg hx])
        go_wp2
        go_roundw
        case rel => exact ⟨k + 1, by omega, by go_num, by rw [HV.out], HB1⟩
        case measure => simp [intOf]; omega
    · obtain rfl : k = Y.length := by omega
      have HR2 := Lib.hid (HR1.out.step HB.out)
      have HB2 := Lib.hid (keep2 HB.out HB1.out)
      have hz2 := HR2.out.2.2
      clear HB HB1
      have x0 := HR2.out.c 0 rfl
      have x1 := HR2.out.c 1 rfl
      have x2 := HR2.out.c 2 rfl
      have z0 := HR2.out.f 0 (by simp)
      have z1 := HR2.out.f 1 (by simp)
      have z2 := HR2.out.f 2 (by simp)
      have hG := HG.out
      have hF := HF.out
      obtain ⟨g, hg⟩ : ∃ g, gN Y Y.length = g := ⟨_, rfl⟩
      rw [hg] at hG ⊢
      rw [hg] at hF
      clear hg HG HU
      go_wp2
      exact bodyPost_ret (v := .tuple #[.agg #[.int .i64 hub, .int .i64 F, .int .i64 (now + len)], .int .i64 0]) (by simp [results, Try.results14, go_sem, x0, x1, x2]) rfl (LPost.mk (by repeat (first | with_reducible exact HB2.out | with_reducible exact Below.refl _ _ | ((with_reducible refine Below.setCell ?_ ?_ _); rotate_left; focus (first | (simp; done) | (simp; omega) | omega)) | ((with_reducible refine Below.alloc ?_ ?_ _); rotate_left; focus (first | (simp; done) | (simp; omega) | omega)) | with_reducible refine Below.trans ?_ (below_drewN' _ _ _) | with_reducible refine Below.trans ?_ (below_drew _ _))))
theorem propose_any {L : List Vo} {A : List Bool} {hub now len h f u er : Int} (hp : PW L A hub now len h f u er) (v va : Value) (w : World) (hl : VosAt w v L) (ha : BosAt w va A) :
    Calls Try.prog 14 #[v, va, .int .i64 hub, .int .i64 now, .int .i64 len] w (LPost h f u er w) := by
  cases hp with
  | arg h => exact propose_arg v va L A hub now len w hl ha h
  | few h1 h2 => exact propose_few v va L A hub now len w hl ha h1 h2
  | lim h1 h2 h3 => exact propose_lim v va L A hub now len w hl ha h1 h2 h3
  | ok _ h1 h2 h3 h4 => exact propose_ok v va L A hub now len w hl ha h1 h2 h3 _ h4
end Go.Proofs.Ytifnhfpdcbpjlaa
