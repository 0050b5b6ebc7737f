/- Leases: the reference's 'Propose'. -/
import Derived.Test.YtelohejnbfefoaaLma
namespace Go.Proofs.Ytelohejnbfefoaa
open Go.RowKit

set_option maxHeartbeats 2000000 in
theorem rcount_any (v : Value) (A : List Bool) (w : World) (ha : BosAt w v A) : Calls Try.prog 28 #[v] w fun e w' => e = .returned (.int .i64 (trN A A.length)) ∧ w = w' := by
  obtain ⟨aa, capa, rfl, hm, hc⟩ := ha
  unfold maxLen at hm
  have HC := Lib.hid hc
  clear hc
  go_enter Try.func28, Try.ntmps28
  go_wp2_with fail
  go_loop [3, 4] (fun y i => ∃ k : Nat, k ≤ A.length ∧ i = .int .i64 k ∧ y = .int .i64 (trN A k)) (fun _ i => A.length - (intOf i).toNat)
  case atStart => exact ⟨0, by omega, rfl, rfl⟩
  case round =>
    obtain ⟨k, hk, rfl, rfl⟩ := hrel
    by_cases hlt : k < A.length
    · obtain ⟨b5, off2, rfl, hct2⟩ := HC.out (by intro h; rw [h] at hlt; simp at hlt)
      have y0 := hct2 k _ (bo_get hlt)
      have HT := Lib.hid (trN_le A k)
      have HT2 := HT.out
      clear hct2
      cases hA : A.getD k false
      · have HE := Lib.hid (trN_no hA)
        rw [hA] at y0
        clear hA
        go_wp2
        go_round
        case rel => exact ⟨k + 1, by omega, by go_num, by rw [HE.out]⟩
        case measure => simp [intOf]; omega
      · have HE := Lib.hid (trN_yes hA)
        rw [hA] at y0
        clear hA
        go_wp2
        go_round
        case rel => exact ⟨k + 1, by omega, by go_num, by rw [HE.out]; go_num⟩
        case measure => simp [intOf]; omega
    · obtain rfl : k = A.length := by omega
      go_wp2
      go_ret
      exact ⟨rfl, rfl⟩
theorem gN_app (Y : List Vo) (x : Vo) (h : 0 < Y.length) : ∀ k, k ≤ Y.length → gN (Y ++ [x]) k = gN Y k
  | 0, _ => by rw [gN, gN, List.getD_eq_getElem?_getD, List.getElem?_append_left h, ← List.getD_eq_getElem?_getD]
  | k + 1, hk => by rw [gN, gN, gN_app Y x h k (by omega)]; simp [List.getElem?_append_left (show k < Y.length by omega)]
theorem gN_snoc (Y : List Vo) (x : Vo) (h : 0 < Y.length) : gN (Y ++ [x]) (Y ++ [x]).length = mxi (gN Y Y.length) x.f := by
  rw [List.length_append, show Y.length + [x].length = Y.length + 1 from rfl, gN, gN_app Y x h _ (Nat.le_refl _)]
  simp
theorem gN_one (x : Vo) : gN [x] 1 = x.f := by
  show mxi x.f x.f = x.f
  unfold mxi; split <;> rfl
/-- The greatest so far. -/
def gS (L : List Vo) (A : List Bool) (k : Nat) (b : Bool) (g : Int) : Prop := b = decide (0 < trN A k) ∧ g = if b then gN (yesN L A k) (yesN L A k).length else 0
theorem gS.start (L : List Vo) (A : List Bool) : gS L A 0 false 0 := ⟨rfl, rfl⟩
theorem gS.no {L : List Vo} {A : List Bool} {k : Nat} {b : Bool} {g : Int} (h : gS L A k b g) (hA : A.getD k false = false) : gS L A (k + 1) b g := by
  unfold gS; rw [trN_no hA, yesN_no hA]; exact h
theorem gS.first {L : List Vo} {A : List Bool} {k : Nat} {g : Int} (h : gS L A k false g) (hA : A.getD k false = true) : gS L A (k + 1) true (L.getD k zV).f := by
  have h0 : trN A k = 0 := by have := h.1; simp at this; exact this
  refine ⟨by rw [trN_yes hA]; simp, ?_⟩
  have hl := yesN_trN L A k
  rw [h0] at hl
  rw [yesN_yes hA, List.eq_nil_of_length_eq_zero hl]
  exact (gN_one _).symm
theorem gS.more {L : List Vo} {A : List Bool} {k : Nat} {g : Int} (h : gS L A k true g) (hA : A.getD k false = true) : gS L A (k + 1) true (mxi g (L.getD k zV).f) := by
  have h0 : 0 < trN A k := by have := h.1; simpa using this.symm
  refine ⟨by rw [trN_yes hA]; simp, ?_⟩
  rw [yesN_yes hA, if_pos rfl, gN_snoc _ _ (by rw [yesN_trN]; exact h0), h.2]
  rfl
set_option maxRecDepth 100000 in
set_option maxHeartbeats 8000000 in
theorem rpropose_few (v va : Value) (L : List Vo) (A : List Bool) (hub now len : Int) (w : World) (hl : VosAt w v L) (ha : BosAt w va A) (h : argB L.length A.length hub now len = true) (hM : ¬ L.length < 2 * (yesN L A L.length).length) :
    Calls Try.prog 13 #[v, va, .int .i64 hub, .int .i64 now, .int .i64 len] w (LPost 0 0 0 22 w) := by
  rw [yesN_trN] at hM
  have hla := Lib.hid hl
  have haa := Lib.hid ha
  obtain ⟨a, cap, rfl, hm, -⟩ := hl
  obtain ⟨aa, capa, rfl, hma, -⟩ := ha
  unfold maxLen at hm hma
  obtain ⟨h0, h1, h2, h3, h4⟩ := arg_all h
  have HN := Lib.hid (show A.length = L.length by omega)
  have h9 : L.length ≤ 3 := by have := (inr_iff.1 h0).2; omega
  have t := tm_of h3
  obtain ⟨t1, t2⟩ := t
  have l12 := inr_iff.1 h4
  obtain ⟨l1, l2⟩ := l12
  have H0 := Lib.hid h0
  have H2 := Lib.hid h2
  have H3 := Lib.hid h3
  have H4 := Lib.hid h4
  clear h h0 h1 h2 h3 h4
  have HC := Lib.hid (rcount_any _ A (w.alloc (.cells #[.int .i64 0, .int .i64 0, .int .i64 0] 27)) (haa.out.step (al _ _)))
  have HR := Lib.hid (Cs.new w w.heap.size #[.int .i64 0, .int .i64 0, .int .i64 0] 27 rfl)
  have hM2 : ¬ (L.length : Int) < 2 * (trN A L.length : Int) := by omega
  clear hM
  have HLL := HN.out
  rw [HLL] at HC haa ⊢
  clear HLL
  have hz := HR.out.2.2
  have x0 := HR.out.c 0 rfl
  have x1 := HR.out.c 1 rfl
  have x2 := HR.out.c 2 rfl
  have z0 := HR.out.f 0 (by simp)
  have z1 := HR.out.f 1 (by simp)
  have z2 := HR.out.f 2 (by simp)
  have HT9 := trN_le A L.length
  go_enter Try.func13, Try.ntmps13
  go_wp2_with fail
  refine (between_q _ 2 3 _ H0.out _).mono ?_
  rintro e w' ⟨rfl, rfl⟩
  go_wp2_with fail
  refine (between_q hub 0 _ _ H2.out _).mono ?_
  rintro e w' ⟨rfl, rfl⟩
  go_wp2_with fail
  refine (between_q now 0 1000000000 _ H3.out _).mono ?_
  rintro e w' ⟨rfl, rfl⟩
  go_wp2_with fail
  refine (between_q len 1 1000000 _ H4.out _).mono ?_
  rintro e w' ⟨rfl, rfl⟩
  go_wp2_with fail
  refine HC.out.mono ?_
  rintro e w1 ⟨rfl, rfl⟩
  go_wp2
  exact bodyPost_ret (v := .tuple #[.agg #[.int .i64 0, .int .i64 0, .int .i64 0], .int .i64 22]) (by simp [results, Try.results13, go_sem, x0, x1, x2]) rfl (LPost.mk (by repeat (first | with_reducible exact Below.refl _ _ | with_reducible exact Below.refl _ _ | ((with_reducible refine Below.setCell ?_ ?_ _); rotate_left; focus (first | (simp; done) | (simp; omega) | omega)) | ((with_reducible refine Below.alloc ?_ ?_ _); rotate_left; focus (first | (simp; done) | (simp; omega) | omega)) | with_reducible refine Below.trans ?_ (below_drewN' _ _ _) | with_reducible refine Below.trans ?_ (below_drew _ _))))
set_option maxRecDepth 100000 in
set_option maxHeartbeats 8000000 in
theorem rpropose_lim (v va : Value) (L : List Vo) (A : List Bool) (hub now len : Int) (w : World) (hl : VosAt w v L) (ha : BosAt w va A) (h : argB L.length A.length hub now len = true) (hM : L.length < 2 * (yesN L A L.length).length) (hG : 1000000000 ≤ gN (yesN L A L.length) (yesN L A L.length).length) :
    Calls Try.prog 13 #[v, va, .int .i64 hub, .int .i64 now, .int .i64 len] w (LPost 0 0 0 2 w) := by
  rw [yesN_trN] at hM
  have hla := Lib.hid hl
  have haa := Lib.hid ha
  obtain ⟨a, cap, rfl, hm, -⟩ := hl
  obtain ⟨aa, capa, rfl, hma, -⟩ := ha
  unfold maxLen at hm hma
  obtain ⟨h0, h1, h2, h3, h4⟩ := arg_all h
  have HN := Lib.hid (show A.length = L.length by omega)
  have h9 : L.length ≤ 3 := by have := (inr_iff.1 h0).2; omega
  have t := tm_of h3
  obtain ⟨t1, t2⟩ := t
  have l12 := inr_iff.1 h4
  obtain ⟨l1, l2⟩ := l12
  have H0 := Lib.hid h0
  have H2 := Lib.hid h2
  have H3 := Lib.hid h3
  have H4 := Lib.hid h4
  clear h h0 h1 h2 h3 h4
  have HC := Lib.hid (rcount_any _ A (w.alloc (.cells #[.int .i64 0, .int .i64 0, .int .i64 0] 27)) (haa.out.step (al _ _)))
  have HR := Lib.hid (Cs.new w w.heap.size #[.int .i64 0, .int .i64 0, .int .i64 0] 27 rfl)
  have hM2 : (L.length : Int) < 2 * (trN A L.length : Int) := by omega
  have HM := Lib.hid hM
  clear hM
  have HG := Lib.hid hG
  clear hG
  have HLL := HN.out
  rw [HLL] at HC haa ⊢
  clear HLL
  have hz := HR.out.2.2
  have x0 := HR.out.c 0 rfl
  have x1 := HR.out.c 1 rfl
  have x2 := HR.out.c 2 rfl
  have z0 := HR.out.f 0 (by simp)
  have z1 := HR.out.f 1 (by simp)
  have z2 := HR.out.f 2 (by simp)
  have HT9 := trN_le A L.length
  clear x0 x1 x2 z0 z1 z2 hz
  go_enter Try.func13, Try.ntmps13
  go_wp2_with fail
  refine (between_q _ 2 3 _ H0.out _).mono ?_
  rintro e w' ⟨rfl, rfl⟩
  go_wp2_with fail
  refine (between_q hub 0 _ _ H2.out _).mono ?_
  rintro e w' ⟨rfl, rfl⟩
  go_wp2_with fail
  refine (between_q now 0 1000000000 _ H3.out _).mono ?_
  rintro e w' ⟨rfl, rfl⟩
  go_wp2_with fail
  refine (between_q len 1 1000000 _ H4.out _).mono ?_
  rintro e w' ⟨rfl, rfl⟩
  go_wp2_with fail
  refine HC.out.mono ?_
  rintro e w1 ⟨rfl, rfl⟩
  go_wp2_with fail
  clear hM2
  go_loop [12, 13, 14] (fun fv sv i => ∃ (k : Nat) (b : Bool) (g : Int), k ≤ L.length ∧ i = .int .i64 k ∧ sv = .bool b ∧ fv = .int .i64 g ∧ Hid (gS L A k b g)) (fun _ _ i => L.length - (intOf i).toNat)
  case atStart => exact ⟨0, false, 0, by omega, rfl, rfl, rfl, gS.start _ _⟩
  case round =>
    obtain ⟨k, b, g, hk, rfl, rfl, rfl, HS⟩ := hrel
    by_cases hlt : k < L.length
    · obtain ⟨a2, cap2, hva, -, hcs⟩ := hla.out.step (al w (.cells #[.int .i64 0, .int .i64 0, .int .i64 0] 27))
      obtain ⟨rfl, rfl⟩ : a = a2 ∧ cap = cap2 := by simpa using hva
      obtain ⟨b1, off, rfl, hcs2⟩ := hcs (by intro h; rw [h] at hlt; simp at hlt)
      obtain ⟨a3, cap3, hvb, -, hct⟩ := haa.out.step (al w (.cells #[.int .i64 0, .int .i64 0, .int .i64 0] 27))
      obtain ⟨rfl, -, rfl⟩ : aa = a3 ∧ L.length = A.length ∧ capa = cap3 := by simpa using hvb
      have hlta : k < A.length := by rw [HN.out]; exact hlt
      obtain ⟨b2, off2, rfl, hct2⟩ := hct (by intro h; rw [h] at hlta; simp at hlta)
      have y0 := hct2 k _ (bo_get hlta)
      obtain ⟨x0, -, -⟩ := hcs2 k _ (vo_get hlt)
      clear hva hvb hcs hct hcs2 hct2 hlta
      cases hA : A.getD k false
      · have HS2 := Lib.hid (HS.out.no hA)
        rw [hA] at y0
        clear hA
        go_wp2
        go_round
        case rel => exact ⟨k + 1, b, g, by omega, by go_num, rfl, rfl, HS2⟩
        case measure => simp [intOf]; omega
      · rw [hA] at y0
        cases b
        · have HS2 := Lib.hid (HS.out.first hA)
          clear hA
          generalize L.getD k zV = x at *
          go_wp2
          go_round
          case rel => exact ⟨k + 1, true, x.f, by omega, by go_num, rfl, rfl, HS2⟩
          case measure => simp [intOf]; omega
        · have HS2 := Lib.hid (HS.out.more hA)
          clear hA
          generalize L.getD k zV = x at *
          by_cases hx : g < x.f
          · rw [show mxi g x.f = x.f by unfold mxi; rw [if_pos hx]] at HS2
            go_wp2
            go_round
            case rel => exact ⟨k + 1, true, x.f, by omega, by go_num, rfl, rfl, HS2⟩
            case measure => simp [intOf]; omega
          · rw [show mxi g x.f = g by unfold mxi; rw [if_neg hx]] at HS2
            go_wp2
            go_round
            case rel => exact ⟨k + 1, true, g, by omega, by go_num, rfl, rfl, HS2⟩
            case measure => simp [intOf]; omega
    · obtain rfl : k = L.length := by omega
      have hb : b = true := by
        rw [HS.out.1, decide_eq_true_iff]; have := HM.out; omega
      subst hb
      have hg := HS.out.2
      rw [if_pos rfl] at hg
      have hG := HG.out
      rw [← hg] at hG
      clear hg HS
      have hz := HR.out.2.2
      have x0 := HR.out.c 0 rfl
      have x1 := HR.out.c 1 rfl
      have x2 := HR.out.c 2 rfl
      have z0 := HR.out.f 0 (by simp)
      have z1 := HR.out.f 1 (by simp)
      have z2 := HR.out.f 2 (by simp)
      go_wp2
      exact bodyPost_ret (v := .tuple #[.agg #[.int .i64 0, .int .i64 0, .int .i64 0], .int .i64 2]) (by simp [results, Try.results13, go_sem, x0, x1, x2]) rfl (LPost.mk (by repeat (first | with_reducible exact Below.refl _ _ | with_reducible exact Below.refl _ _ | ((with_reducible refine Below.setCell ?_ ?_ _); rotate_left; focus (first | (simp; done) | (simp; omega) | omega)) | ((with_reducible refine Below.alloc ?_ ?_ _); rotate_left; focus (first | (simp; done) | (simp; omega) | omega)) | with_reducible refine Below.trans ?_ (below_drewN' _ _ _) | with_reducible refine Below.trans ?_ (below_drew _ _))))
set_option maxRecDepth 100000 in
set_option maxHeartbeats 8000000 in
theorem rpropose_ok (v va : Value) (L : List Vo) (A : List Bool) (hub now len : Int) (w : World) (hl : VosAt w v L) (ha : BosAt w va A) (h : argB L.length A.length hub now len = true) (hM : L.length < 2 * (yesN L A L.length).length) (hG : ¬ 1000000000 ≤ gN (yesN L A L.length) (yesN L A L.length).length) (F : Int) (hF : IntKind.i64.wrap (gN (yesN L A L.length) (yesN L A L.length).length + 1) = F) :
    Calls Try.prog 13 #[v, va, .int .i64 hub, .int .i64 now, .int .i64 len] w (LPost hub F (now + len) 0 w) := by
  rw [yesN_trN] at hM
  have hla := Lib.hid hl
  have haa := Lib.hid ha
  obtain ⟨a, cap, rfl, hm, -⟩ := hl
  obtain ⟨aa, capa, rfl, hma, -⟩ := ha
  unfold maxLen at hm hma
  obtain ⟨h0, h1, h2, h3, h4⟩ := arg_all h
  have HN := Lib.hid (show A.length = L.length by omega)
  have h9 : L.length ≤ 3 := by have := (inr_iff.1 h0).2; omega
  have t := tm_of h3
  obtain ⟨t1, t2⟩ := t
  have l12 := inr_iff.1 h4
  obtain ⟨l1, l2⟩ := l12
  have H0 := Lib.hid h0
  have H2 := Lib.hid h2
  have H3 := Lib.hid h3
  have H4 := Lib.hid h4
  clear h h0 h1 h2 h3 h4
  have HC := Lib.hid (rcount_any _ A (w.alloc (.cells #[.int .i64 0, .int .i64 0, .int .i64 0] 27)) (haa.out.step (al _ _)))
  have HR := Lib.hid (Cs.new w w.heap.size #[.int .i64 0, .int .i64 0, .int .i64 0] 27 rfl)
  have hM2 : (L.length : Int) < 2 * (trN A L.length : Int) := by omega
  have HM := Lib.hid hM
  clear hM
  have HG := Lib.hid hG
  clear hG
  have HF := Lib.hid hF
  clear hF
  have HLL := HN.out
  rw [HLL] at HC haa ⊢
  clear HLL
  have hz := HR.out.2.2
  have x0 := HR.out.c 0 rfl
  have x1 := HR.out.c 1 rfl
  have x2 := HR.out.c 2 rfl
  have z0 := HR.out.f 0 (by simp)
  have z1 := HR.out.f 1 (by simp)
  have z2 := HR.out.f 2 (by simp)
  have HT9 := trN_le A L.length
  clear x0 x1 x2 z0 z1 z2 hz
  go_enter Try.func13, Try.ntmps13
  go_wp2_with fail
  refine (between_q _ 2 3 _ H0.out _).mono ?_
  rintro e w' ⟨rfl, rfl⟩
  go_wp2_with fail
  refine (between_q hub 0 _ _ H2.out _).mono ?_
  rintro e w' ⟨rfl, rfl⟩
  go_wp2_with fail
  refine (between_q now 0 1000000000 _ H3.out _).mono ?_
  rintro e w' ⟨rfl, rfl⟩
  go_wp2_with fail
  refine (between_q len 1 1000000 _ H4.out _).mono ?_
  rintro e w' ⟨rfl, rfl⟩
  go_wp2_with fail
  refine HC.out.mono ?_
  rintro e w1 ⟨rfl, rfl⟩
  go_wp2_with fail
  clear hM2
  go_loop [12, 13, 14] (fun fv sv i => ∃ (k : Nat) (b : Bool) (g : Int), k ≤ L.length ∧ i = .int .i64 k ∧ sv = .bool b ∧ fv = .int .i64 g ∧ Hid (gS L A k b g)) (fun _ _ i => L.length - (intOf i).toNat)
  case atStart => exact ⟨0, false, 0, by omega, rfl, rfl, rfl, gS.start _ _⟩
  case round =>
    obtain ⟨k, b, g, hk, rfl, rfl, rfl, HS⟩ := hrel
    by_cases hlt : k < L.length
    · obtain ⟨a2, cap2, hva, -, hcs⟩ := hla.out.step (al w (.cells #[.int .i64 0, .int .i64 0, .int .i64 0] 27))
      obtain ⟨rfl, rfl⟩ : a = a2 ∧ cap = cap2 := by simpa using hva
      obtain ⟨b1, off, rfl, hcs2⟩ := hcs (by intro h; rw [h] at hlt; simp at hlt)
      obtain ⟨a3, cap3, hvb, -, hct⟩ := haa.out.step (al w (.cells #[.int .i64 0, .int .i64 0, .int .i64 0] 27))
      obtain ⟨rfl, -, rfl⟩ : aa = a3 ∧ L.length = A.length ∧ capa = cap3 := by simpa using hvb
      have hlta : k < A.length := by rw [HN.out]; exact hlt
      obtain ⟨b2, off2, rfl, hct2⟩ := hct (by intro h; rw [h] at hlta; simp at hlta)
      have y0 := hct2 k _ (bo_get hlta)
      obtain ⟨x0, -, -⟩ := hcs2 k _ (vo_get hlt)
      clear hva hvb hcs hct hcs2 hct2 hlta
      cases hA : A.getD k false
      · have HS2 := Lib.hid (HS.out.no hA)
        rw [hA] at y0
        clear hA
        go_wp2
        go_round
        case rel => exact ⟨k + 1, b, g, by omega, by go_num, rfl, rfl, HS2⟩
        case measure => simp [intOf]; omega
      · rw [hA] at y0
        cases b
        · have HS2 := Lib.hid (HS.out.first hA)
          clear hA
          generalize L.getD k zV = x at *
          go_wp2
          go_round
          case rel => exact ⟨k + 1, true, x.f, by omega, by go_num, rfl, rfl, HS2⟩
          case measure => simp [intOf]; omega
        · have HS2 := Lib.hid (HS.out.more hA)
          clear hA
          generalize L.getD k zV = x at *
          by_cases hx : g < x.f
          · rw [show mxi g x.f = x.f by unfold mxi; rw [if_pos hx]] at HS2
            go_wp2
            go_round
            case rel => exact ⟨k + 1, true, x.f, by omega, by go_num, rfl, rfl, HS2⟩
            case measure => simp [intOf]; omega
          · rw [show mxi g x.f = g by unfold mxi; rw [if_neg hx]] at HS2
            go_wp2
            go_round
            case rel => exact ⟨k + 1, true, g, by omega, by go_num, rfl, rfl, HS2⟩
            case measure => simp [intOf]; omega
    · obtain rfl : k = L.length := by omega
      have hb : b = true := by
        rw [HS.out.1, decide_eq_true_iff]; have := HM.out; omega
      subst hb
      have hg := HS.out.2
      rw [if_pos rfl] at hg
      have hG := HG.out
      rw [← hg] at hG
      have hF := HF.out
      rw [← hg] at hF
      clear hg HS
      have hz := HR.out.2.2
      have x0 := HR.out.c 0 rfl
      have x1 := HR.out.c 1 rfl
      have x2 := HR.out.c 2 rfl
      have z0 := HR.out.f 0 (by simp)
      have z1 := HR.out.f 1 (by simp)
      have z2 := HR.out.f 2 (by simp)
      go_wp2
      exact bodyPost_ret (v := .tuple #[.agg #[.int .i64 hub, .int .i64 F, .int .i64 (now + len)], .int .i64 0]) (by simp [results, Try.results13, go_sem, x0, x1, x2]) rfl (LPost.mk (by repeat (first | with_reducible exact Below.refl _ _ | with_reducible exact Below.refl _ _ | ((with_reducible refine Below.setCell ?_ ?_ _); rotate_left; focus (first | (simp; done) | (simp; omega) | omega)) | ((with_reducible refine Below.alloc ?_ ?_ _); rotate_left; focus (first | (simp; done) | (simp; omega) | omega)) | with_reducible refine Below.trans ?_ (below_drewN' _ _ _) | with_reducible refine Below.trans ?_ (below_drew _ _))))
theorem rpropose_any {L : List Vo} {A : List Bool} {hub now len h f u er : Int} (hp : PW L A hub now len h f u er) (v va : Value) (w : World) (hl : VosAt w v L) (ha : BosAt w va A) :
    Calls Try.prog 13 #[v, va, .int .i64 hub, .int .i64 now, .int .i64 len] w (LPost h f u er w) := by
  cases hp with
  | arg h => exact rpropose_arg v va L A hub now len w hl ha h
  | few h1 h2 => exact rpropose_few v va L A hub now len w hl ha h1 h2
  | lim h1 h2 h3 => exact rpropose_lim v va L A hub now len w hl ha h1 h2 h3
  | ok _ h1 h2 h3 h4 => exact rpropose_ok v va L A hub now len w hl ha h1 h2 h3 _ h4
end Go.Proofs.Ytelohejnbfefoaa
