/- The reference's well-formed windows; what the running maximum is. -/
import Derived.Test.YtebeaekiaikgmaaYh
namespace Go.Proofs.Ytebeaekiaikgmaa
open Go.RowKit

theorem st_no {l : List Int} {k : Nat} (h : okV l k = false) : (stT l (k + 1)).1 = (stT l k).1 := by
  show accT (stT l k).1 (stT l k).2 (l.getD k 0) = (stT l k).1
  unfold okV accE at h
  unfold accT
  by_cases q1 : l.getD k 0 < 0 ∨ 1000000 < l.getD k 0
  · rw [if_pos q1]
  · rw [if_neg q1] at h ⊢
    by_cases q2 : (stT l k).1 < l.getD k 0
    · rw [if_pos q2] at h; cases h
    · rw [if_neg q2]
theorem st_yes {l : List Int} {k : Nat} (h : okV l k = true) : (stT l (k + 1)).1 = if (stT l k).1 < l.getD k 0 then l.getD k 0 else (stT l k).1 := by
  show accT (stT l k).1 (stT l k).2 (l.getD k 0) = _
  unfold okV accE at h
  unfold accT
  by_cases q1 : l.getD k 0 < 0 ∨ 1000000 < l.getD k 0
  · rw [if_pos q1] at h; cases h
  · rw [if_neg q1]
theorem ints_take {w : World} {a : Option Addr} {c : Nat} {l : List Int} {n k : Nat} (h : IntsAt w (.slice a n c) l) (hk : k ≤ l.length) : IntsAt w (.slice a k c) (l.take k) := by
  obtain ⟨a', c', hv, hm, hc⟩ := h
  obtain ⟨rfl, -, rfl⟩ : a = a' ∧ n = l.length ∧ c = c' := by simpa using hv
  refine ⟨a, c, by rw [List.length_take, Nat.min_eq_left hk], by rw [List.length_take]; omega, fun hne => ?_⟩
  obtain ⟨b, off, rfl, hx⟩ := hc (by intro e; rw [e] at hne; simp at hne)
  refine ⟨b, off, rfl, fun i x hi => hx i x ?_⟩
  rw [List.getElem?_take] at hi
  split at hi
  · exact hi
  · cases hi
theorem in_pre {l : List Int} {k : Nat} (hk : k < l.length) (x : Int) : inB (l.take k) (okL l l.length) x = true ↔ ∃ i, i < k ∧ okV l i = true ∧ l.getD i 0 = x := by
  rw [in_iff]
  constructor
  · rintro ⟨i, h1, h2, h3, h4⟩
    rw [List.length_take] at h1
    rw [okL_len] at h2
    rw [okL_get l h2] at h3
    refine ⟨i, by omega, h3, ?_⟩
    rw [← h4, List.getD_eq_getElem?_getD, List.getD_eq_getElem?_getD, List.getElem?_take_of_lt (by omega)]
  · rintro ⟨i, h1, h2, h3⟩
    refine ⟨i, by rw [List.length_take]; omega, by rw [okL_len]; omega, by rw [okL_get l (by omega)]; exact h2, ?_⟩
    rw [← h3, List.getD_eq_getElem?_getD, List.getD_eq_getElem?_getD, List.getElem?_take_of_lt (by omega)]
theorem in_all {l : List Int} (x : Int) : inB l (okL l l.length) x = true ↔ ∃ i, i < l.length ∧ okV l i = true ∧ l.getD i 0 = x := by
  rw [in_iff]
  constructor
  · rintro ⟨i, h1, h2, h3, h4⟩
    rw [okL_len] at h2
    rw [okL_get l h2] at h3
    exact ⟨i, h1, h3, h4⟩
  · rintro ⟨i, h1, h2, h3⟩
    exact ⟨i, h1, by rw [okL_len]; omega, by rw [okL_get l (by omega)]; exact h2, h3⟩
/-- What the windows show. -/
theorem seen_is (l : List Int) {j : Nat} (hj : j < 16) : (stT l l.length).2.getD j false = (decide (0 ≤ (stT l l.length).1 - j) && inB l (okL l l.length) ((stT l l.length).1 - j)) := by
  obtain ⟨h1, -, -⟩ := sem l l.length (Nat.le_refl _)
  rw [Bool.eq_iff_iff, h1 j hj, Bool.and_eq_true, decide_eq_true_iff, in_all]
  constructor
  · rintro ⟨i, a1, a2, a3, a4⟩
    exact ⟨by omega, i, a1, a2, a4⟩
  · rintro ⟨b1, i, a1, a2, a4⟩
    exact ⟨i, a1, a2, by omega, a4⟩
/-- Accepted or not, in five ways. -/
theorem ok_no {l : List Int} {k : Nat} (hk : k < l.length) (h : l.getD k 0 < 0 ∨ 1000000 < l.getD k 0 ∨ inB (l.take k) (okL l l.length) (l.getD k 0) = true ∨ l.getD k 0 ≤ (stT l k).1 - 16) : okV l k = false := by
  rw [Bool.eq_false_iff]
  intro e
  rw [ok_iff l k hk] at e
  obtain ⟨a1, a2, a3, a4⟩ := e
  rcases h with h | h | h | h
  · omega
  · omega
  · exact a3 ((in_pre hk _).1 h)
  · omega
theorem ok_yes {l : List Int} {k : Nat} (hk : k < l.length) (h1 : 0 ≤ l.getD k 0) (h2 : l.getD k 0 ≤ 1000000) (h3 : inB (l.take k) (okL l l.length) (l.getD k 0) = false) (h4 : (stT l k).1 - 16 < l.getD k 0) : okV l k = true := by
  rw [ok_iff l k hk]
  refine ⟨h1, h2, fun h => ?_, h4⟩
  rw [(in_pre hk _).2 h] at h3
  cases h3
set_option maxRecDepth 100000 in
set_option maxHeartbeats 8000000 in
theorem btw_any (n lo hi : Int) (w : World) : Calls Try.prog 45 #[.int .i64 n, .int .i64 lo, .int .i64 hi] w fun e w' => e = .returned (.bool (decide (lo ≤ n) && decide (n ≤ hi))) ∧ w = w' := by
  by_cases h1 : lo ≤ n
  · have e1 : decide (n ≥ lo) = true := by simp; omega
    have e1b : decide (lo ≤ n) = true := by simp; omega
    by_cases h2 : n ≤ hi
    · have e2 : decide (n ≤ hi) = true := by simp; omega
      clear h1 h2
      go_enter Try.func45, Try.ntmps45
      go_wp2
      go_ret
      exact ⟨by rw [e1b, e2]; rfl, rfl⟩
    · have e2 : decide (n ≤ hi) = false := by simp; omega
      clear h1 h2
      go_enter Try.func45, Try.ntmps45
      go_wp2
      go_ret
      exact ⟨by rw [e1b, e2]; rfl, rfl⟩
  · have e1 : decide (n ≥ lo) = false := by simp; omega
    have e1b : decide (lo ≤ n) = false := by simp; omega
    clear h1
    go_enter Try.func45, Try.ntmps45
    go_wp2
    go_ret
    exact ⟨by rw [e1b]; rfl, rfl⟩
set_option maxRecDepth 100000 in
set_option maxHeartbeats 8000000 in
theorem refw (t : Int) (a : Option Addr) (c : Nat) (q : List Bool) (w : World) (h : BosAt w (.slice a 16 c) q) (hw : WF t q) : Calls Try.prog 32 #[.agg #[.int .i64 t, .slice a 16 c]] w fun e w' => e = .returned (.bool true) ∧ Below w.heap.size w w' := by
  obtain ⟨hl, h1, h2, h3, h4⟩ := hw
  have HH := Lib.hid h
  obtain ⟨a', c', hv, -, hc⟩ := h
  obtain ⟨rfl, -, rfl⟩ : a = a' ∧ 16 = q.length ∧ c = c' := by simpa using hv
  obtain ⟨b, off, rfl, -⟩ := hc (by intro e; rw [e] at hl; simp at hl)
  clear hc hv
  have HC := Lib.hid (Cs.new w w.heap.size #[.int .i64 t, .slice (some ⟨b, off, none⟩) 16 c] 28 rfl)
  have HX := Lib.hid (fun (i : Nat) (hi : i < 16) => bos_at (HH.out.step (al w (.cells #[.int .i64 t, .slice (some ⟨b, off, none⟩) 16 c] 28))) i (by omega))
  have HG := Lib.hid (show (decide (-1 ≤ t) && decide (t ≤ 1000000)) = true by simp; omega)
  have H4 := Lib.hid h4
  have x00 := HC.out.c 0 rfl
  have x01 := HC.out.c 1 rfl
  by_cases ht : 0 ≤ t
  · have q0 : q.getD 0 false = true := h3 ht
    have g1 : decide (t ≥ 0) = true := by simp; omega
    have g2 : decide (0 ≤ t) = true := by simp; omega
    have x0 : (w.alloc (.cells #[.int .i64 t, .slice (some ⟨b, off, none⟩) 16 c] 28)).cell? ⟨b, off, none⟩ = some (.bool true) := by have := HX.out 0 (by omega); rw [q0] at this; exact this
    clear q0 ht
    go_enter Try.func32, Try.ntmps32
    go_upto_region 1 with fail
    go_cut [23] from 4 to 24 (fun p wc => p = .bool false ∧ wc = (w.alloc (.cells #[.int .i64 t, .slice (some ⟨b, off, none⟩) 16 c] 28)).drew)
    case first =>
      go_region_law (go_simp; go_at_call 45; refine (btw_any _ _ _ _).mono ?_; rintro e w3 ⟨rfl, rfl⟩; rw [HG.out])
      all_goals go_wp2
      all_goals go_meet
      all_goals exact ⟨rfl, rfl⟩
    obtain ⟨rfl, rfl⟩ := hcut
    go_wp2_with fail
    clear x0 g1 g2
    go_loopw [3] (fun iv wr => ∃ k : Nat, k ≤ 16 ∧ iv = .int .i64 k ∧ wr = (w.alloc (.cells #[.int .i64 t, .slice (some ⟨b, off, none⟩) 16 c] 28)).drew) (fun iv _ => 16 - (intOf iv).toNat)
    case atStart => exact ⟨0, by omega, rfl, rfl⟩
    case round =>
      obtain ⟨k, hk, rfl, rfl⟩ := hrel
      have hkw : wrap64 ((k : Int) + 1) = k + 1 := IntWalk.wrap64_in _ (by omega)
      by_cases hlt : k < 16
      · have t1 : (k : Int) < 16 := by omega
        have t2 : decide ((k : Int) < 16) = true := by simp; omega
        have y0 := HX.out k hlt
        have HKT := Lib.hid (H4.out k)
        obtain ⟨z, hz⟩ : ∃ z, q.getD k false = z := ⟨_, rfl⟩
        rw [hz] at y0 HKT
        clear hz
        cases z
        · clear HKT
          go_wp2
          go_roundw
          case rel => exact ⟨k + 1, by omega, by first | go_num | rfl, by trivial⟩
          case measure => simp [intOf]; omega
        · have y1 : decide ((k : Int) > t) = false := by
            have h := HKT.out
            simp
            apply Classical.byContradiction
            intro e
            have := h (by omega)
            cases this
          have y2 : decide (t < (k : Int)) = false := by simpa using y1
          clear HKT
          go_wp2
          go_roundw
          case rel => exact ⟨k + 1, by omega, by first | go_num | rfl, by trivial⟩
          case measure => simp [intOf]; omega
      · have hke : k = 16 := by omega
        subst hke
        go_wp2
        go_ret
        exact ⟨rfl, (al w _).trans (below_drew _ _)⟩
  · have q0 : q.getD 0 false = false := h4 0 (by omega)
    have g1 : decide (t ≥ 0) = false := by simp; omega
    have g2 : decide (0 ≤ t) = false := by simp; omega
    have x0 : (w.alloc (.cells #[.int .i64 t, .slice (some ⟨b, off, none⟩) 16 c] 28)).cell? ⟨b, off, none⟩ = some (.bool false) := by have := HX.out 0 (by omega); rw [q0] at this; exact this
    clear q0 ht
    go_enter Try.func32, Try.ntmps32
    go_upto_region 1 with fail
    go_cut [23] from 4 to 24 (fun p wc => p = .bool false ∧ wc = (w.alloc (.cells #[.int .i64 t, .slice (some ⟨b, off, none⟩) 16 c] 28)).drew)
    case first =>
      go_region_law (go_simp; go_at_call 45; refine (btw_any _ _ _ _).mono ?_; rintro e w3 ⟨rfl, rfl⟩; rw [HG.out])
      all_goals go_wp2
      all_goals go_meet
      all_goals exact ⟨rfl, rfl⟩
    obtain ⟨rfl, rfl⟩ := hcut
    go_wp2_with fail
    clear x0 g1 g2
    go_loopw [3] (fun iv wr => ∃ k : Nat, k ≤ 16 ∧ iv = .int .i64 k ∧ wr = (w.alloc (.cells #[.int .i64 t, .slice (some ⟨b, off, none⟩) 16 c] 28)).drew) (fun iv _ => 16 - (intOf iv).toNat)
    case atStart => exact ⟨0, by omega, rfl, rfl⟩
    case round =>
      obtain ⟨k, hk, rfl, rfl⟩ := hrel
      have hkw : wrap64 ((k : Int) + 1) = k + 1 := IntWalk.wrap64_in _ (by omega)
      by_cases hlt : k < 16
      · have t1 : (k : Int) < 16 := by omega
        have t2 : decide ((k : Int) < 16) = true := by simp; omega
        have y0 := HX.out k hlt
        have HKT := Lib.hid (H4.out k)
        obtain ⟨z, hz⟩ : ∃ z, q.getD k false = z := ⟨_, rfl⟩
        rw [hz] at y0 HKT
        clear hz
        cases z
        · clear HKT
          go_wp2
          go_roundw
          case rel => exact ⟨k + 1, by omega, by first | go_num | rfl, by trivial⟩
          case measure => simp [intOf]; omega
        · have y1 : decide ((k : Int) > t) = false := by
            have h := HKT.out
            simp
            apply Classical.byContradiction
            intro e
            have := h (by omega)
            cases this
          have y2 : decide (t < (k : Int)) = false := by simpa using y1
          clear HKT
          go_wp2
          go_roundw
          case rel => exact ⟨k + 1, by omega, by first | go_num | rfl, by trivial⟩
          case measure => simp [intOf]; omega
      · have hke : k = 16 := by omega
        subst hke
        go_wp2
        go_ret
        exact ⟨rfl, (al w _).trans (below_drew _ _)⟩
end Go.Proofs.Ytebeaekiaikgmaa
