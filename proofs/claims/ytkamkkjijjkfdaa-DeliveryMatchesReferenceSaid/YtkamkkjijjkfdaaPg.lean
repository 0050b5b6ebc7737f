/- The reference's windows. -/
import Derived.Test.YtkamkkjijjkfdaaPf
import Derived.Test.YtkamkkjijjkfdaaRz
import Derived.Test.YtkamkkjijjkfdaaVc
import Derived.BigQuiet
import Derived.Deep.CutRange
namespace Go.Proofs.Ytkamkkjijjkfdaa
open Go.RowKit

theorem bos_get {w : World} {b off n c : Nat} {L : List Bool} (h : BosAt w (.slice (some ⟨b, off, none⟩) n c) L) (i : Nat) (hi : i < L.length) : w.cell? ⟨b, off + i, none⟩ = some (.bool (L.getD i false)) := by
  obtain ⟨a', c', hv, hm, hc⟩ := h
  obtain ⟨b', off', ha, hx⟩ := hc (by intro e; rw [e] at hi; simp at hi)
  obtain ⟨rfl, -, -⟩ : some (⟨b, off, none⟩ : Addr) = a' ∧ n = L.length ∧ c = c' := by simpa using hv
  obtain ⟨rfl, rfl⟩ : b = b' ∧ off = off' := by simpa using ha
  exact hx i _ (bo_get hi)
theorem rbtw_w (n lo hi : Int) (b : Bool) (hb : (decide (lo ≤ n) && decide (n ≤ hi)) = b) (w : World) : Calls Try.prog 52 #[.int .i64 n, .int .i64 lo, .int .i64 hi] w fun e w' => e = .returned (.bool b) ∧ w' = w := (rbtw_q n lo hi b hb w).mono fun _ _ h => ⟨h.1, h.2.symm⟩
set_option maxRecDepth 100000 in
set_option maxHeartbeats 8000000 in
theorem rwin_yes (t : Int) (a : Option Addr) (c : Nat) (q : List Bool) (w : World) (h : BosAt w (.slice a 16 c) q) (hw : WF t q) : Calls Try.prog 45 #[.agg #[.int .i64 t, .slice a 16 c]] w fun e w' => e = .returned (.bool true) ∧ Below w.heap.size w w' := by
  obtain ⟨hl, h1, h2, h3, h4⟩ := hw
  have HH := Lib.hid h
  obtain ⟨a', c', hv, -, hc⟩ := h
  obtain ⟨rfl, -, rfl⟩ : a = a' ∧ 16 = q.length ∧ c = c' := by simpa using hv
  obtain ⟨b, off, rfl, -⟩ := hc (by intro e; rw [e] at hl; simp at hl)
  clear hc hv
  have HC := Lib.hid (Cs.new w w.heap.size #[.int .i64 t, .slice (some ⟨b, off, none⟩) 16 c] 27 rfl)
  have HX := Lib.hid (fun (i : Nat) (hi : i < 16) => bos_get (HH.out.step (al w (.cells #[.int .i64 t, .slice (some ⟨b, off, none⟩) 16 c] 27))) i (by omega))
  have HG := Lib.hid (show (decide (-1 ≤ t) && decide (t ≤ 1000000)) = true by simp; omega)
  have H4 := Lib.hid h4
  have x00 := HC.out.c 0 rfl
  have x01 := HC.out.c 1 rfl
  by_cases ht : 0 ≤ t
  · have q0 : q.getD 0 false = true := h3 ht
    have g1 : decide (t ≥ 0) = true := by simp; omega
    have g2 : decide (0 ≤ t) = true := by simp; omega
    have x0 : (w.alloc (.cells #[.int .i64 t, .slice (some ⟨b, off, none⟩) 16 c] 27)).cell? ⟨b, off, none⟩ = some (.bool true) := by have := HX.out 0 (by omega); rw [q0] at this; exact this
    clear q0 ht
    go_enter Try.func45, Try.ntmps45
    go_upto_region 1 with fail
    go_cut [23] from 4 to 24 (fun p wc => p = .bool false ∧ wc = (w.alloc (.cells #[.int .i64 t, .slice (some ⟨b, off, none⟩) 16 c] 27)).drew)
    case first =>
      go_region_law (go_simp; go_at_call 52; refine (rbtw_q _ _ _ _ HG.out _).mono ?_; rintro e w3 ⟨rfl, rfl⟩)
      all_goals go_wp2
      all_goals go_meet
      all_goals exact ⟨rfl, rfl⟩
    obtain ⟨rfl, rfl⟩ := hcut
    go_wp2_with fail
    clear x0 g1 g2
    go_loopw [3] (fun iv wr => ∃ k : Nat, k ≤ 16 ∧ iv = .int .i64 k ∧ wr = (w.alloc (.cells #[.int .i64 t, .slice (some ⟨b, off, none⟩) 16 c] 27)).drew) (fun iv _ => 16 - (intOf iv).toNat)
    case atStart => exact ⟨0, by omega, rfl, rfl⟩
    case round =>
      obtain ⟨k, hk, rfl, rfl⟩ := hrel
      have hkw : wrap64 ((k : Int) + 1) = k + 1 := IntWalk.wrap64_in _ (by omega)
      by_cases hlt : k < 16
      · have t1 : (k : Int) < 16 := by omega
        have t2 : decide ((k : Int) < 16) = true := by simp; omega
        have y0 := HX.out k hlt
        have HKT := Lib.hid (H4.out k)
        obtain ⟨z, hz⟩ : ∃ z, q.getD k false = z := ⟨_, rfl⟩
        rw [hz] at y0 HKT
        clear hz
        cases z
        · clear HKT
          go_wp2
          go_roundw
          case rel => exact ⟨k + 1, by omega, by first | go_num | rfl, by trivial⟩
          case measure => simp [intOf]; omega
        · have y1 : decide ((k : Int) > t) = false := by
            have h := HKT.out
            simp
            apply Classical.byContradiction
            intro e
            have := h (by omega)
            cases this
          have y2 : decide (t < (k : Int)) = false := by simpa using y1
          clear HKT
          go_wp2
          go_roundw
          case rel => exact ⟨k + 1, by omega, by first | go_num | rfl, by trivial⟩
          case measure => simp [intOf]; omega
      · have hke : k = 16 := by omega
        subst hke
        go_wp2
        go_ret
        exact ⟨rfl, (al w _).trans (below_drew _ _)⟩
  · have q0 : q.getD 0 false = false := h4 0 (by omega)
    have g1 : decide (t ≥ 0) = false := by simp; omega
    have g2 : decide (0 ≤ t) = false := by simp; omega
    have x0 : (w.alloc (.cells #[.int .i64 t, .slice (some ⟨b, off, none⟩) 16 c] 27)).cell? ⟨b, off, none⟩ = some (.bool false) := by have := HX.out 0 (by omega); rw [q0] at this; exact this
    clear q0 ht
    go_enter Try.func45, Try.ntmps45
    go_upto_region 1 with fail
    go_cut [23] from 4 to 24 (fun p wc => p = .bool false ∧ wc = (w.alloc (.cells #[.int .i64 t, .slice (some ⟨b, off, none⟩) 16 c] 27)).drew)
    case first =>
      go_region_law (go_simp; go_at_call 52; refine (rbtw_q _ _ _ _ HG.out _).mono ?_; rintro e w3 ⟨rfl, rfl⟩)
      all_goals go_wp2
      all_goals go_meet
      all_goals exact ⟨rfl, rfl⟩
    obtain ⟨rfl, rfl⟩ := hcut
    go_wp2_with fail
    clear x0 g1 g2
    go_loopw [3] (fun iv wr => ∃ k : Nat, k ≤ 16 ∧ iv = .int .i64 k ∧ wr = (w.alloc (.cells #[.int .i64 t, .slice (some ⟨b, off, none⟩) 16 c] 27)).drew) (fun iv _ => 16 - (intOf iv).toNat)
    case atStart => exact ⟨0, by omega, rfl, rfl⟩
    case round =>
      obtain ⟨k, hk, rfl, rfl⟩ := hrel
      have hkw : wrap64 ((k : Int) + 1) = k + 1 := IntWalk.wrap64_in _ (by omega)
      by_cases hlt : k < 16
      · have t1 : (k : Int) < 16 := by omega
        have t2 : decide ((k : Int) < 16) = true := by simp; omega
        have y0 := HX.out k hlt
        have HKT := Lib.hid (H4.out k)
        obtain ⟨z, hz⟩ : ∃ z, q.getD k false = z := ⟨_, rfl⟩
        rw [hz] at y0 HKT
        clear hz
        cases z
        · clear HKT
          go_wp2
          go_roundw
          case rel => exact ⟨k + 1, by omega, by first | go_num | rfl, by trivial⟩
          case measure => simp [intOf]; omega
        · have y1 : decide ((k : Int) > t) = false := by
            have h := HKT.out
            simp
            apply Classical.byContradiction
            intro e
            have := h (by omega)
            cases this
          have y2 : decide (t < (k : Int)) = false := by simpa using y1
          clear HKT
          go_wp2
          go_roundw
          case rel => exact ⟨k + 1, by omega, by first | go_num | rfl, by trivial⟩
          case measure => simp [intOf]; omega
      · have hke : k = 16 := by omega
        subst hke
        go_wp2
        go_ret
        exact ⟨rfl, (al w _).trans (below_drew _ _)⟩
set_option maxRecDepth 100000 in
set_option maxHeartbeats 8000000 in
theorem rwin_len (t : Int) (a : Option Addr) (n c : Nat) (q : List Bool) (w : World) (h : BosAt w (.slice a n c) q) (hn : q.length = n) (h16 : n ≠ 16) : Calls Try.prog 45 #[.agg #[.int .i64 t, .slice a n c]] w fun e w' => e = .returned (.bool false) ∧ Below w.heap.size w w' := by
  have HB := Lib.hid (al w (.cells #[.int .i64 t, .slice a n c] 27))
  have HC := Lib.hid (Cs.new w w.heap.size #[.int .i64 t, .slice a n c] 27 rfl)
  have x00 := HC.out.c 0 rfl
  have x01 := HC.out.c 1 rfl
  have x0z := HC.out.2.2
  have hm : n ≤ maxLen := by obtain ⟨a', c', hv, hm, -⟩ := h; omega
  unfold maxLen at hm
  have g1 : ((n : Int) == 16) = false := by simp; omega
  have g2 : ((n : Int) != 16) = true := by simp; omega
  have g3 : ((n : Int) = 16) = False := by simp; omega
  clear h hn h16
  go_enter Try.func45, Try.ntmps45
  go_upto_region 1 with fail
  go_quiet (fail)
  go_wp2
  go_ret
  exact ⟨rfl, HB.out.trans (below_drewN' _ _ _)⟩
set_option maxRecDepth 100000 in
set_option maxHeartbeats 8000000 in
theorem rwin_rng (t : Int) (a : Option Addr) (c : Nat) (_ : List Bool) (w : World) (hr : (decide (-1 ≤ t) && decide (t ≤ 1000000)) = false) : Calls Try.prog 45 #[.agg #[.int .i64 t, .slice a 16 c]] w fun e w' => e = .returned (.bool false) ∧ Below w.heap.size w w' := by
  have HB := Lib.hid (al w (.cells #[.int .i64 t, .slice a 16 c] 27))
  have HC := Lib.hid (Cs.new w w.heap.size #[.int .i64 t, .slice a 16 c] 27 rfl)
  have x00 := HC.out.c 0 rfl
  have x01 := HC.out.c 1 rfl
  have x0z := HC.out.2.2
  have HG := Lib.hid hr
  clear hr
  go_enter Try.func45, Try.ntmps45
  go_upto_region 1 with fail
  go_quiet ((go_at_call 52; exact Calls.quiet_of_same (rbtw_w _ _ _ _ HG.out _)))
  go_wp2
  go_ret
  exact ⟨rfl, HB.out.trans (below_drewN' _ _ _)⟩
set_option maxRecDepth 100000 in
set_option maxHeartbeats 8000000 in
theorem rwin_zero (t : Int) (a : Option Addr) (c : Nat) (q : List Bool) (w : World) (h : BosAt w (.slice a 16 c) q) (hl : q.length = 16) (hr : (decide (-1 ≤ t) && decide (t ≤ 1000000)) = true) (hz : q.getD 0 false ≠ decide (0 ≤ t)) : Calls Try.prog 45 #[.agg #[.int .i64 t, .slice a 16 c]] w fun e w' => e = .returned (.bool false) ∧ Below w.heap.size w w' := by
  have HH := Lib.hid h
  obtain ⟨a', c', hv, -, hc⟩ := h
  obtain ⟨rfl, -, rfl⟩ : a = a' ∧ 16 = q.length ∧ c = c' := by simpa using hv
  obtain ⟨b, off, rfl, -⟩ := hc (by intro e; rw [e] at hl; simp at hl)
  clear hc hv
  have HB := Lib.hid (al w (.cells #[.int .i64 t, .slice (some ⟨b, off, none⟩) 16 c] 27))
  have HC := Lib.hid (Cs.new w w.heap.size #[.int .i64 t, .slice (some ⟨b, off, none⟩) 16 c] 27 rfl)
  have x00 := HC.out.c 0 rfl
  have x01 := HC.out.c 1 rfl
  have x0z := HC.out.2.2
  have HX := Lib.hid (fun (i : Nat) (hi : i < 16) => bos_get (HH.out.step HB.out) i (by omega))
  have HG := Lib.hid hr
  have x0 : (w.alloc (.cells #[.int .i64 t, .slice (some ⟨b, off, none⟩) 16 c] 27)).cell? ⟨b, off, none⟩ = some (.bool (q.getD 0 false)) := HX.out 0 (by omega)
  have xz : b < (w.alloc (.cells #[.int .i64 t, .slice (some ⟨b, off, none⟩) 16 c] 27)).heap.size := World.block_lt_of_cell? _ _ x0
  clear hr
  by_cases ht : 0 ≤ t
  · have q0 : q.getD 0 false = false := by
      cases e : q.getD 0 false with
      | false => rfl
      | true => exact absurd (by rw [e]; simp; omega) hz
    have g1 : decide (t ≥ 0) = true := by simp; omega
    have g2 : decide (0 ≤ t) = true := by simp; omega
    rw [q0] at x0
    clear q0 ht hz hl
    go_enter Try.func45, Try.ntmps45
    go_upto_region 1 with fail
    go_quiet ((go_at_call 52; exact Calls.quiet_of_same (rbtw_w _ _ _ _ HG.out _)))
    go_wp2
    go_ret
    exact ⟨rfl, HB.out.trans (below_drewN' _ _ _)⟩
  · have q0 : q.getD 0 false = true := by
      cases e : q.getD 0 false with
      | true => rfl
      | false => exact absurd (by rw [e]; simp; omega) hz
    have g1 : decide (t ≥ 0) = false := by simp; omega
    have g2 : decide (0 ≤ t) = false := by simp; omega
    rw [q0] at x0
    clear q0 ht hz hl
    go_enter Try.func45, Try.ntmps45
    go_upto_region 1 with fail
    go_quiet ((go_at_call 52; exact Calls.quiet_of_same (rbtw_w _ _ _ _ HG.out _)))
    go_wp2
    go_ret
    exact ⟨rfl, HB.out.trans (below_drewN' _ _ _)⟩
set_option maxRecDepth 100000 in
set_option maxHeartbeats 8000000 in
theorem rwin_late (t : Int) (a : Option Addr) (c : Nat) (q : List Bool) (w : World) (h : BosAt w (.slice a 16 c) q) (hl : q.length = 16) (hr : (decide (-1 ≤ t) && decide (t ≤ 1000000)) = true) (hz : q.getD 0 false = decide (0 ≤ t)) (hw : ¬ WF t q) : Calls Try.prog 45 #[.agg #[.int .i64 t, .slice a 16 c]] w fun e w' => e = .returned (.bool false) ∧ Below w.heap.size w w' := by
  have HNW := Lib.hid (show ¬ ∀ j : Nat, j < 16 → t < (j : Int) → q.getD j false = false from fun hall => hw (by
    simp only [Bool.and_eq_true, decide_eq_true_iff] at hr
    refine ⟨hl, hr.1, hr.2, fun h0 => by rw [hz]; exact decide_eq_true h0, fun j hj => ?_⟩
    by_cases h16 : j < 16
    · exact hall j h16 hj
    · exact getD_none (by omega)))
  clear hw
  have HH := Lib.hid h
  obtain ⟨a', c', hv, -, hc⟩ := h
  obtain ⟨rfl, -, rfl⟩ : a = a' ∧ 16 = q.length ∧ c = c' := by simpa using hv
  obtain ⟨b, off, rfl, -⟩ := hc (by intro e; rw [e] at hl; simp at hl)
  clear hc hv
  have HB := Lib.hid (al w (.cells #[.int .i64 t, .slice (some ⟨b, off, none⟩) 16 c] 27))
  have HC := Lib.hid (Cs.new w w.heap.size #[.int .i64 t, .slice (some ⟨b, off, none⟩) 16 c] 27 rfl)
  have x00 := HC.out.c 0 rfl
  have x01 := HC.out.c 1 rfl
  have x0z := HC.out.2.2
  have HX := Lib.hid (fun (i : Nat) (hi : i < 16) => bos_get (HH.out.step HB.out) i (by omega))
  have HG := Lib.hid hr
  have x0 : (w.alloc (.cells #[.int .i64 t, .slice (some ⟨b, off, none⟩) 16 c] 27)).cell? ⟨b, off, none⟩ = some (.bool (q.getD 0 false)) := HX.out 0 (by omega)
  have xz : b < (w.alloc (.cells #[.int .i64 t, .slice (some ⟨b, off, none⟩) 16 c] 27)).heap.size := World.block_lt_of_cell? _ _ x0
  clear hr
  by_cases ht : 0 ≤ t
  · have q0 : q.getD 0 false = true := by rw [hz]; simp; omega
    have g1 : decide (t ≥ 0) = true := by simp; omega
    have g2 : decide (0 ≤ t) = true := by simp; omega
    rw [q0] at x0
    clear q0 ht hz hl
    go_enter Try.func45, Try.ntmps45
    go_upto_region 1 with fail
    go_quiet ((go_at_call 52; exact Calls.quiet_of_same (rbtw_w _ _ _ _ HG.out _)))
    go_wp2_with fail
    obtain ⟨W1, hW1⟩ : ∃ z, (w.alloc (.cells #[.int .i64 t, .slice (some ⟨b, off, none⟩) 16 c] 27)).drewN nq = z := ⟨_, rfl⟩
    have HB1 := Lib.hid (show Below w.heap.size w W1 by rw [← hW1]; exact HB.out.trans (below_drewN' _ _ _))
    have HX1 := Lib.hid (fun (i : Nat) (hi : i < 16) => (show W1.cell? ⟨b, off + i, none⟩ = some (.bool (q.getD i false)) by rw [← hW1]; exact HX.out i hi))
    have c0 : W1.cell? ⟨w.heap.size, 0, none⟩ = some (.int .i64 t) := by rw [← hW1]; exact x00
    have c1 : W1.cell? ⟨w.heap.size, 1, none⟩ = some (.slice (some ⟨b, off, none⟩) 16 c) := by rw [← hW1]; exact x01
    have cz : w.heap.size < W1.heap.size := World.block_lt_of_cell? _ _ c0
    rw [hW1]
    clear hW1 x0 g1 g2 x00 x01 x0z xz HX HC HB HH
    go_loopw [3] (fun iv wr => ∃ k : Nat, k ≤ 16 ∧ iv = .int .i64 k ∧ Hid (∀ j, j < k → t < (j : Int) → q.getD j false = false) ∧ Hid (W1 = wr)) (fun iv _ => 16 - (intOf iv).toNat)
    case atStart => exact ⟨0, by omega, rfl, Lib.hid (fun j h => absurd h (by omega)), Lib.hid rfl⟩
    case round =>
      obtain ⟨k, hk, rfl, HN, HW⟩ := hrel
      obtain rfl := HW.out
      clear HW
      have hkw : wrap64 ((k : Int) + 1) = k + 1 := IntWalk.wrap64_in _ (by omega)
      by_cases hlt : k < 16
      · have t1 : (k : Int) < 16 := by omega
        have t2 : decide ((k : Int) < 16) = true := by simp; omega
        have y0 := HX1.out k hlt
        have yz : b < W1.heap.size := World.block_lt_of_cell? _ _ y0
        by_cases hkt : t < (k : Int)
        · have y1 : decide ((k : Int) > t) = true := by simp; omega
          have y2 : decide (t < (k : Int)) = true := by simp; omega
          cases hz2 : q.getD k false
          · have HN2 := Lib.hid (show ∀ j, j < k + 1 → t < (j : Int) → q.getD j false = false from fun j h1 h2 => by
              by_cases e : j = k
              · subst e; exact hz2
              · exact HN.out j (by omega) h2)
            rw [hz2] at y0
            clear hz2 HN
            go_wp2
            go_roundw
            case rel => exact ⟨k + 1, by omega, by first | go_num | rfl, HN2, Lib.hid trivial⟩
            case measure => simp [intOf]; omega
          · rw [hz2] at y0
            clear hz2 HN
            go_wp2
            go_ret
            exact ⟨rfl, HB1.out⟩
        · have y1 : decide ((k : Int) > t) = false := by simp; omega
          have y2 : decide (t < (k : Int)) = false := by simp; omega
          have HN2 := Lib.hid (show ∀ j, j < k + 1 → t < (j : Int) → q.getD j false = false from fun j h1 h2 => by
              by_cases e : j = k
              · subst e; exact absurd h2 hkt
              · exact HN.out j (by omega) h2)
          clear HN
          generalize q.getD k false = z at *
          cases z
          all_goals
            go_wp2
            go_roundw
            case rel => exact ⟨k + 1, by omega, by first | go_num | rfl, HN2, Lib.hid trivial⟩
            case measure => simp [intOf]; omega
      · exfalso
        obtain rfl : k = 16 := by omega
        exact HNW.out HN.out
  · have q0 : q.getD 0 false = false := by rw [hz]; simp; omega
    have g1 : decide (t ≥ 0) = false := by simp; omega
    have g2 : decide (0 ≤ t) = false := by simp; omega
    rw [q0] at x0
    clear q0 ht hz hl
    go_enter Try.func45, Try.ntmps45
    go_upto_region 1 with fail
    go_quiet ((go_at_call 52; exact Calls.quiet_of_same (rbtw_w _ _ _ _ HG.out _)))
    go_wp2_with fail
    obtain ⟨W1, hW1⟩ : ∃ z, (w.alloc (.cells #[.int .i64 t, .slice (some ⟨b, off, none⟩) 16 c] 27)).drewN nq = z := ⟨_, rfl⟩
    have HB1 := Lib.hid (show Below w.heap.size w W1 by rw [← hW1]; exact HB.out.trans (below_drewN' _ _ _))
    have HX1 := Lib.hid (fun (i : Nat) (hi : i < 16) => (show W1.cell? ⟨b, off + i, none⟩ = some (.bool (q.getD i false)) by rw [← hW1]; exact HX.out i hi))
    have c0 : W1.cell? ⟨w.heap.size, 0, none⟩ = some (.int .i64 t) := by rw [← hW1]; exact x00
    have c1 : W1.cell? ⟨w.heap.size, 1, none⟩ = some (.slice (some ⟨b, off, none⟩) 16 c) := by rw [← hW1]; exact x01
    have cz : w.heap.size < W1.heap.size := World.block_lt_of_cell? _ _ c0
    rw [hW1]
    clear hW1 x0 g1 g2 x00 x01 x0z xz HX HC HB HH
    go_loopw [3] (fun iv wr => ∃ k : Nat, k ≤ 16 ∧ iv = .int .i64 k ∧ Hid (∀ j, j < k → t < (j : Int) → q.getD j false = false) ∧ Hid (W1 = wr)) (fun iv _ => 16 - (intOf iv).toNat)
    case atStart => exact ⟨0, by omega, rfl, Lib.hid (fun j h => absurd h (by omega)), Lib.hid rfl⟩
    case round =>
      obtain ⟨k, hk, rfl, HN, HW⟩ := hrel
      obtain rfl := HW.out
      clear HW
      have hkw : wrap64 ((k : Int) + 1) = k + 1 := IntWalk.wrap64_in _ (by omega)
      by_cases hlt : k < 16
      · have t1 : (k : Int) < 16 := by omega
        have t2 : decide ((k : Int) < 16) = true := by simp; omega
        have y0 := HX1.out k hlt
        have yz : b < W1.heap.size := World.block_lt_of_cell? _ _ y0
        by_cases hkt : t < (k : Int)
        · have y1 : decide ((k : Int) > t) = true := by simp; omega
          have y2 : decide (t < (k : Int)) = true := by simp; omega
          cases hz2 : q.getD k false
          · have HN2 := Lib.hid (show ∀ j, j < k + 1 → t < (j : Int) → q.getD j false = false from fun j h1 h2 => by
              by_cases e : j = k
              · subst e; exact hz2
              · exact HN.out j (by omega) h2)
            rw [hz2] at y0
            clear hz2 HN
            go_wp2
            go_roundw
            case rel => exact ⟨k + 1, by omega, by first | go_num | rfl, HN2, Lib.hid trivial⟩
            case measure => simp [intOf]; omega
          · rw [hz2] at y0
            clear hz2 HN
            go_wp2
            go_ret
            exact ⟨rfl, HB1.out⟩
        · have y1 : decide ((k : Int) > t) = false := by simp; omega
          have y2 : decide (t < (k : Int)) = false := by simp; omega
          have HN2 := Lib.hid (show ∀ j, j < k + 1 → t < (j : Int) → q.getD j false = false from fun j h1 h2 => by
              by_cases e : j = k
              · subst e; exact absurd h2 hkt
              · exact HN.out j (by omega) h2)
          clear HN
          generalize q.getD k false = z at *
          cases z
          all_goals
            go_wp2
            go_roundw
            case rel => exact ⟨k + 1, by omega, by first | go_num | rfl, HN2, Lib.hid trivial⟩
            case measure => simp [intOf]; omega
      · exfalso
        obtain rfl : k = 16 := by omega
        exact HNW.out HN.out
theorem rwin_no (t : Int) (a : Option Addr) (n c : Nat) (q : List Bool) (w : World) (h : BosAt w (.slice a n c) q) (hn : q.length = n) (hw : ¬ WF t q) : Calls Try.prog 45 #[.agg #[.int .i64 t, .slice a n c]] w fun e w' => e = .returned (.bool false) ∧ Below w.heap.size w w' := by
  by_cases h16 : n = 16
  · subst h16
    cases hr : (decide (-1 ≤ t) && decide (t ≤ 1000000))
    · exact rwin_rng t a c q w hr
    · by_cases hz : q.getD 0 false = decide (0 ≤ t)
      · exact rwin_late t a c q w h hn hr hz hw
      · exact rwin_zero t a c q w h hn hr hz
  · exact rwin_len t a n c q w h hn h16
end Go.Proofs.Ytkamkkjijjkfdaa
