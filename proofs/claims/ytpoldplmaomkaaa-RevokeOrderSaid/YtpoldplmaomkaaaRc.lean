/- Sets of tags: the reference's 'Tag', 'Valid' and 'In'. -/
import Derived.Test.YtpoldplmaomkaaaRb
namespace Go.Proofs.Ytpoldplmaomkaaa
open Go.RowKit

/-- Is a number in a list? -/
def inB (l : List Int) (n : Int) : Bool := l.contains n
theorem inB_iff {l : List Int} {n : Int} : inB l n = true ↔ n ∈ l := by unfold inB; exact List.contains_iff_mem
theorem rtag_any (n : Int) (w : World) : Calls Try.prog 27 #[.int .i64 n] w fun e w' => e = .returned (.bool (tgB n)) ∧ w = w' := by
  by_cases h1 : 0 ≤ n <;> by_cases h2 : n ≤ 2147483646
  all_goals
    have HR := Lib.hid (show tgB n = (decide (0 ≤ n) && decide (n ≤ 2147483646)) from rfl)
    simp only [h1, h2, decide_true, decide_false, Bool.and_self, Bool.and_false, Bool.and_true] at HR
    go_enter Try.func27, Try.ntmps27
    go_wp2
    go_ret
    exact ⟨ret_bool HR.out.symm, rfl⟩
theorem rtag_q (x : Int) (b : Bool) (hb : tgB x = b) (w : World) : Calls Try.prog 27 #[.int .i64 x] w fun e w' => e = .returned (.bool b) ∧ w = w' := by
  rw [← hb]; exact rtag_any x w
theorem rtag_qn (x : Int) (b : Bool) (hb : tgB x = b) (w : World) (n : Nat) : Calls Try.prog 27 #[.int .i64 x] (w.drewN n) fun e w' => e = .returned (.bool b) ∧ w' = w.drewN n := (rtag_q x b hb _).mono fun _ _ h => ⟨h.1, h.2.symm⟩
set_option maxRecDepth 100000 in
set_option maxHeartbeats 1000000 in
theorem in_any (v : Value) (l : List Int) (n : Int) (w : World) (h : IntsAt w v l) : Calls Try.prog 22 #[v, .int .i64 n] w fun e w' => e = .returned (.bool (inB l n)) ∧ w = w' := by
  obtain ⟨a, cap, rfl, hm, hc⟩ := h
  unfold maxLen at hm
  have HC := Lib.hid hc
  clear hc
  go_enter Try.func22, Try.ntmps22
  go_wp2_with fail
  go_loop [5] (fun i => ∃ k : Nat, k ≤ l.length ∧ i = .int .i64 k ∧ Hid (∀ j, j < k → l.getD j 0 ≠ n)) (fun i => l.length - (intOf i).toNat)
  case atStart => exact ⟨0, by omega, rfl, Lib.hid fun j h => absurd h (by omega)⟩
  case round =>
    obtain ⟨k, hk, rfl, HN⟩ := hrel
    by_cases hlt : k < l.length
    · obtain ⟨b, off, rfl, hcs⟩ := HC.out (by intro h; rw [h] at hlt; simp at hlt)
      have hx := hcs k _ (getD_of hlt)
      clear hcs
      by_cases hxn : l.getD k 0 = n
      · have HF := Lib.hid (show inB l n = true by rw [inB_iff, ← hxn]; simp [hlt])
        generalize l.getD k 0 = x at *
        subst hxn
        go_wp2
        go_ret
        exact ⟨ret_bool HF.out.symm, rfl⟩
      · have HN2 := Lib.hid (show ∀ j, j < k + 1 → l.getD j 0 ≠ n from fun j h => by
          by_cases e : j = k
          · subst e; exact hxn
          · exact HN.out j (by omega))
        clear HN
        generalize l.getD k 0 = x at *
        have e1 : (x == n) = false := by simp [hxn]
        have e2 : decide (x = n) = false := by simp [hxn]
        go_wp2
        go_round
        case rel => exact ⟨k + 1, by omega, by go_num, HN2⟩
        case measure => simp [intOf]; omega
    · have HF := Lib.hid (show inB l n = false by
        rw [← Bool.not_eq_true, inB_iff]
        intro hmem
        obtain ⟨j, hj, hje⟩ := List.mem_iff_getElem.1 hmem
        exact HN.out j (by omega) (by simp [hj, hje]))
      go_wp2
      go_ret
      exact ⟨ret_bool HF.out.symm, rfl⟩
set_option maxRecDepth 100000 in
set_option maxHeartbeats 2000000 in
theorem rvalid_any (v : Value) (l : List Int) (w : World) (h : IntsAt w v l) : Calls Try.prog 20 #[.agg #[v]] w fun e w' => e = .returned (.bool (stB l)) ∧ Below w.heap.size w w' := by
  have HL := Lib.hid h
  obtain ⟨a, cap, rfl, hm, hc⟩ := h
  unfold maxLen at hm
  clear hc
  have HB0 := Lib.hid (al w (.cells #[.slice a l.length cap] 24))
  have KA := Lib.hid (Cs.new w w.heap.size #[.slice a l.length cap] 24 rfl)
  go_enter Try.func20, Try.ntmps20
  go_wp2_with fail
  go_loopw [3] (fun i wr => ∃ k : Nat, k ≤ l.length ∧ i = .int .i64 k ∧ Hid (∃ lo, 0 ≤ lo ∧ inc 0 l = inc lo (l.drop k) ∧ (k = 0 → lo = 0) ∧ (∀ j, k = j + 1 → lo = l.getD j 0 + 1)) ∧ Hid (Below w.heap.size w wr ∧ Cs wr w.heap.size #[.slice a l.length cap])) (fun i _ => l.length - (intOf i).toNat)
  case atStart => exact ⟨0, by omega, rfl, ⟨0, by omega, rfl, fun _ => rfl, fun _ h => by omega⟩, HB0.out, KA.out⟩
  case round =>
    clear KA HB0
    obtain ⟨k, hk, rfl, HI, HB⟩ := hrel
    have c0 : wr.cell? ⟨w.heap.size, 0, none⟩ = some (.slice a l.length cap) := HB.out.2.c 0 rfl
    have cz := HB.out.2.2.2
    by_cases hlt : k < l.length
    · obtain ⟨a2, cap2, hva, -, hcs⟩ := HL.out.step HB.out.1
      obtain ⟨rfl, rfl⟩ : a = a2 ∧ cap = cap2 := by simpa using hva
      obtain ⟨b, off, rfl, hcs2⟩ := hcs (by intro h; rw [h] at hlt; simp at hlt)
      have hx := hcs2 k _ (getD_of hlt)
      have hy := fun j (h : k = j + 1) => hcs2 j _ (getD_of (l := l) (k := j) (by omega))
      replace hy := Lib.hid hy
      obtain ⟨lo, h0, h1, h2, h3⟩ := HI.out
      have HI2 := Lib.hid (h1.trans (inc_drop hlt))
      have H2 := Lib.hid h2
      have H3 := Lib.hid h3
      clear hcs hcs2 hva HI h1 h2 h3
      cases ht : tgB (l.getD k 0)
      · have HF2 := Lib.hid (show stB l = false by
          unfold stB
          rw [HI2.out]
          have : ¬ (0 ≤ l.getD k 0 ∧ l.getD k 0 ≤ 2147483646) := by unfold tgB at ht; exact inr_no.1 ht
          by_cases e : lo ≤ l.getD k 0
          · rw [decide_eq_true e, decide_eq_false (show ¬ l.getD k 0 ≤ 2147483646 by omega)]; rfl
          · rw [decide_eq_false e]; rfl)
        have HT := Lib.hid ht
        clear HI2 ht H2 H3 hy
        generalize l.getD k 0 = x at *
        go_wp2_with fail
        go_quiet ((go_at_call 27; exact Calls.quiet_of_same (rtag_qn x false HT.out _ _)))
        go_wp2
        go_ret
        exact ⟨ret_bool HF2.out.symm, HB.out.1.trans (below_drewN' _ _ _)⟩
      · have hb2 : 0 ≤ l.getD k 0 ∧ l.getD k 0 ≤ 2147483646 := by unfold tgB at ht; exact inr_iff.1 ht
        rcases k with _ | k
        · simp only [Nat.add_zero] at hx
          have HN := Lib.hid (show inc 0 l = inc (l.getD 0 0 + 1) (l.drop 1) by rw [HI2.out, H2.out rfl, decide_eq_true hb2.1, decide_eq_true hb2.2]; rfl)
          have HNN := Lib.hid (show ∃ lo, 0 ≤ lo ∧ inc 0 l = inc lo (l.drop 1) ∧ (1 = 0 → lo = 0) ∧ (∀ j, 1 = j + 1 → lo = l.getD j 0 + 1) from ⟨_, by omega, HN.out, fun h => by omega, fun j hj => by
            obtain rfl : j = 0 := by omega
            rfl⟩)
          have HT := Lib.hid ht
          clear HI2 ht H2 H3 hy HN hb2
          generalize l.getD 0 0 = x at *
          go_wp2_with fail
          go_quiet ((go_at_call 27; exact Calls.quiet_of_same (rtag_qn x true HT.out _ _)))
          go_wp2
          go_roundw
          case rel => exact ⟨1, by omega, by go_num, HNN, HB.out.1.trans (below_drewN' _ _ _), HB.out.2.step (below_drewN' _ _ _)⟩
          case measure => simp [intOf]; omega
        · have hz := hy.out k rfl
          have hlo := H3.out k rfl
          have HT := Lib.hid ht
          clear ht H2 H3 hy
          have HNN := Lib.hid (show inc 0 l = inc (l.getD (k + 1) 0 + 1) (l.drop (k + 1 + 1)) → ∃ lo, 0 ≤ lo ∧ inc 0 l = inc lo (l.drop (k + 1 + 1)) ∧ (k + 1 + 1 = 0 → lo = 0) ∧ (∀ j, k + 1 + 1 = j + 1 → lo = l.getD j 0 + 1) from fun h => ⟨_, by omega, h, fun h => by omega, fun j hj => by
            obtain rfl : j = k + 1 := by omega
            rfl⟩)
          generalize l.getD (k + 1) 0 = x at *
          generalize l.getD k 0 = z at *
          have hk1 : decide ((((k + 1 : Nat) : Int)) > 0) = true := decide_eq_true (by omega)
          have hk2 : decide ((0 : Int) < ((k : Int) + 1)) = true := decide_eq_true (by omega)
          have hwr : IntKind.i64.wrap ((k : Int) + 1 - 1) = (k : Int) := by rw [show (k : Int) + 1 - 1 = k by omega]; exact IntWalk.i64_in _ (by omega)
          by_cases hzx : x ≤ z
          · have HF2 := Lib.hid (show stB l = false by unfold stB; rw [HI2.out, decide_eq_false (by omega)]; rfl)
            clear HI2 HNN
            have g1 : decide (z ≥ x) = true := by simp [hzx]
            have g2 : decide (x ≤ z) = true := by simp [hzx]
            go_wp2_with fail
            go_quiet ((go_at_call 27; exact Calls.quiet_of_same (rtag_qn x true HT.out _ _)))
            go_wp2
            go_ret
            exact ⟨ret_bool HF2.out.symm, HB.out.1.trans (below_drewN' _ _ _)⟩
          · have HN := Lib.hid (HNN.out (by rw [HI2.out, decide_eq_true (by omega), decide_eq_true hb2.2]; rfl))
            clear HI2 HNN
            have g1 : decide (z ≥ x) = false := by simp; omega
            have g2 : decide (x ≤ z) = false := by simp; omega
            go_wp2_with fail
            go_quiet ((go_at_call 27; exact Calls.quiet_of_same (rtag_qn x true HT.out _ _)))
            go_wp2
            go_roundw
            case rel => exact ⟨k + 1 + 1, by omega, by go_num, HN, HB.out.1.trans (below_drewN' _ _ _), HB.out.2.step (below_drewN' _ _ _)⟩
            case measure => simp [intOf]; omega
    · obtain rfl : k = l.length := by omega
      have HF := Lib.hid (show stB l = decide (l.length ≤ 400) by
        obtain ⟨lo, -, h1, -⟩ := HI.out
        unfold stB; rw [h1, List.drop_length]; rfl)
      go_wp2
      go_ret
      exact ⟨ret_bool (by rw [HF.out]; simp; omega), HB.out.1⟩
end Go.Proofs.Ytpoldplmaomkaaa
