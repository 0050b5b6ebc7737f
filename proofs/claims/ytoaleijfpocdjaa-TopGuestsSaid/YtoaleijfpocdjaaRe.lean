/- Sets of tags: 'tagsOf', its comparison, 'has'. -/
import Derived.Test.YtoaleijfpocdjaaRd
import Derived.Laws.EntriesVeiled
namespace Go.Proofs.Ytoaleijfpocdjaa
open Go.RowKit

theorem cmp_any (a b : Int) (w : World) : Calls Try.prog 41 #[.int .i64 a, .int .i64 b] w fun e w' => e = .returned (.int .i64 (wrap64 (a - b))) ∧ w = w' := by
  go_enter Try.func41, Try.ntmps41
  go_wp2
  go_ret
  exact ⟨rfl, rfl⟩
theorem cmp_qn (a b c : Int) (hc : wrap64 (a - b) = c) (w : World) (n : Nat) : Calls Try.prog 41 #[.int .i64 a, .int .i64 b] (w.drewN n) fun e w' => e = .returned (.int .i64 c) ∧ w' = w.drewN n := (cmp_any a b _).mono fun _ _ h => ⟨by rw [h.1, hc], h.2.symm⟩
theorem tagsOf_any (v : Value) (l : List Int) (w : World) (h : IntsAt w v l) : Calls Try.prog 19 #[.agg #[v]] w fun e w' => e = .returned (.agg #[v, .func (.func 41) #[] #[]]) ∧ Below w.heap.size w w' := by
  obtain ⟨a, cap, rfl, -, -⟩ := h
  go_enter Try.func19, Try.ntmps19
  go_wp2
  exact bodyPost_ret (v := .agg #[.slice a l.length cap, .func (.func 41) #[] #[]]) (by simp [results, Try.results19, go_sem]) rfl ⟨rfl, al2⟩
theorem pw_get {l : List Int} (h : l.Pairwise (· < ·)) (i j : Nat) (hij : i < j) (hj : j < l.length) : l.getD i 0 < l.getD j 0 := by
  have := List.pairwise_iff_getElem.1 h i j (by omega) hj hij
  simpa [hj, show i < l.length by omega] using this
theorem cmp_zero {x t : Int} (hx : 0 ≤ x ∧ x ≤ 2147483646) (ht : -9223372036854775808 ≤ t ∧ t ≤ 9223372036854775807) (h : wrap64 (x - t) = 0) : x = t := by
  unfold wrap64 at h; omega
set_option maxRecDepth 100000 in
set_option maxHeartbeats 2000000 in
theorem has_any (v : Value) (l : List Int) (t : Int) (w : World) (h : IntsAt w v l) (hst : stB l = true) (ht : -9223372036854775808 ≤ t ∧ t ≤ 9223372036854775807) : Calls Try.prog 36 #[.agg #[v, .func (.func 41) #[] #[]], .int .i64 t] w fun e w' => e = .returned (.bool (inB l t)) ∧ Below w.heap.size w w' := by
  have HL := Lib.hid h
  obtain ⟨a, cap, rfl, hm, hc⟩ := h
  unfold maxLen at hm
  clear hc
  have heg : ∀ args w, (callFunc 41 args).run Try.prog w = .ok (.enter 41 args) w := fun _ _ => by kernel_rfl
  have HB0 := Lib.hid (al w (.cells #[.slice a l.length cap, .func (.func 41) #[] #[]] 55))
  have KA := Lib.hid (Cs.new w w.heap.size #[.slice a l.length cap, .func (.func 41) #[] #[]] 55 rfl)
  have c0 := KA.out.c 0 rfl
  have c1 := KA.out.c 1 rfl
  have cz := KA.out.2.2
  go_enter Try.func36, Try.ntmps36
  go_wp2_with fail
  go_quiet (fail)
  go_wp2_with fail
  clear c0 c1 cz
  go_loopw [5, 6] (fun lv hv wr => ∃ (lo hi : Nat), lo ≤ hi ∧ hi ≤ l.length ∧ lv = .int .i64 lo ∧ hv = .int .i64 hi ∧ Hid (tgB t = true → (∀ j, j < lo → l.getD j 0 < t) ∧ (∀ j, hi ≤ j → j < l.length → t < l.getD j 0)) ∧ Hid (Below w.heap.size w wr ∧ Cs wr w.heap.size #[.slice a l.length cap, .func (.func 41) #[] #[]])) (fun lv hv _ => (intOf hv).toNat - (intOf lv).toNat)
  case atStart => exact ⟨0, l.length, by omega, by omega, rfl, rfl, fun _ => ⟨fun j h => by omega, fun j h1 h2 => by omega⟩, HB0.out.trans (below_drewN' _ _ _), KA.out.step (below_drewN' _ _ _)⟩
  case round =>
    clear KA HB0
    obtain ⟨lo, hi, hlh, hhi, rfl, rfl, HI, HB⟩ := hrel
    have c0 := HB.out.2.c 0 rfl
    have c1 := HB.out.2.c 1 rfl
    have cz := HB.out.2.2.2
    by_cases hlt : lo < hi
    · obtain ⟨a2, cap2, hva, -, hcs⟩ := HL.out.step HB.out.1
      obtain ⟨rfl, rfl⟩ : a = a2 ∧ cap = cap2 := by simpa using hva
      obtain ⟨b, off, rfl, hcs2⟩ := hcs (by intro h; rw [h] at hhi; simp at hhi; omega)
      obtain ⟨m, hM⟩ : ∃ m, m = (lo + hi) / 2 := ⟨_, rfl⟩
      have hmm : m < l.length := by omega
      have hm1 : lo ≤ m := by omega
      have hm2 : m < hi := by omega
      have hw2 : wrap64 ((wrap64 ((lo : Int) + (hi : Int))).tdiv 2) = (m : Int) := by
        have h4 := (st_iff.1 hst).2
        rw [IntWalk.wrap64_in ((lo : Int) + (hi : Int)) (by omega), Int.tdiv_eq_ediv_of_nonneg (show 0 ≤ (lo : Int) + (hi : Int) by omega), IntWalk.wrap64_in (((lo : Int) + (hi : Int)) / 2) (by omega)]; omega
      have hx := hcs2 _ _ (getD_of hmm)
      have HX := Lib.hid (show 0 ≤ l.getD m 0 ∧ l.getD m 0 ≤ 2147483646 from by
        have := (st_iff.1 hst).1.1 (l.getD m 0) (by simp [hmm])
        exact this)
      have HP := Lib.hid (pw_get (st_iff.1 hst).1.2)
      clear hcs hcs2 hva hM
      go_wp2_with fail
      rw [hw2]
      have hw1 := Lib.hid hw2
      clear hw2
      obtain ⟨c, hc⟩ : ∃ c, wrap64 (l.getD m 0 - t) = c := ⟨_, rfl⟩
      have HC := Lib.hid hc
      have H0 := Lib.hid (show c = 0 → inB l t = true from fun h => by
        rw [inB_iff, ← cmp_zero HX.out ht (hc.trans h)]; simp [hmm])
      have H1 := Lib.hid (show tgB t = true → c = l.getD m 0 - t from fun h => by
        rw [← hc]
        unfold tgB at h
        have := inr_iff.1 h
        have := HX.out
        exact IntWalk.wrap64_in _ (by omega))
      clear hc
      have H2 := Lib.hid (show c < 0 → tgB t = true → (∀ j, j < m + 1 → l.getD j 0 < t) ∧ (∀ j, hi ≤ j → j < l.length → t < l.getD j 0) from fun hc hT => by
        refine ⟨fun j hj => ?_, (HI.out hT).2⟩
        have h3 := H1.out hT
        by_cases e : j = m
        · subst e; omega
        · have := HP.out j m (by omega) hmm; omega)
      have H3 := Lib.hid (show ¬ c < 0 → c ≠ 0 → tgB t = true → (∀ j, j < lo → l.getD j 0 < t) ∧ (∀ j, m ≤ j → j < l.length → t < l.getD j 0) from fun hc h0 hT => by
        refine ⟨(HI.out hT).1, fun j h1 h2 => ?_⟩
        have h3 := H1.out hT
        by_cases e : j = m
        · subst e; omega
        · have := HP.out m j (by omega) h2; omega)
      clear H1
      generalize l.getD m 0 = x at *
      go_quiet ((go_at_call 41; exact Calls.quiet_of_same (cmp_qn x t c HC.out _ _)))
      by_cases k0 : c = 0
      · have HF := Lib.hid (H0.out k0)
        subst k0
        clear H0 H2 H3
        go_wp2
        go_ret
        exact ⟨ret_bool HF.out.symm, HB.out.1.trans (below_drewN' _ _ _)⟩
      · have e1 : (c == 0) = false := by simp [k0]
        have e2 : decide (c = 0) = false := by simp [k0]
        by_cases k1 : c < 0
        · have HN := Lib.hid (H2.out k1)
          clear H0 H2 H3
          have e3 : decide (c < 0) = true := decide_eq_true k1
          go_wp2
          go_roundw
          case rel => exact ⟨m + 1, hi, by omega, by omega, by go_num, by go_num, HN, HB.out.1.trans (below_drewN' _ _ _), HB.out.2.step (below_drewN' _ _ _)⟩
          case measure => simp [intOf]; omega
        · have HN := Lib.hid (H3.out k1 k0)
          clear H0 H2 H3
          have e3 : decide (c < 0) = false := decide_eq_false k1
          go_wp2
          go_roundw
          case rel => exact ⟨lo, m, by omega, by omega, by go_num, by go_num, HN, HB.out.1.trans (below_drewN' _ _ _), HB.out.2.step (below_drewN' _ _ _)⟩
          case measure => simp [intOf]; omega
    · have HF := Lib.hid (show inB l t = false by
        rw [← Bool.not_eq_true, inB_iff]
        intro hmem
        obtain ⟨h1, h2⟩ := HI.out (by unfold tgB; exact inr_iff.2 ((st_iff.1 hst).1.1 t hmem))
        obtain ⟨j, hj, hje⟩ := List.mem_iff_getElem.1 hmem
        have hg : l.getD j 0 = t := by simp [hj, hje]
        by_cases e : j < lo
        · have := h1 j e; omega
        · have := h2 j (by omega) hj; omega)
      go_wp2
      go_ret
      exact ⟨ret_bool HF.out.symm, HB.out.1⟩
end Go.Proofs.Ytoaleijfpocdjaa
