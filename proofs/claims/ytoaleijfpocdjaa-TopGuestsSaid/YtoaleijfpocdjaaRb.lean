/- Sets of tags: what a set is; the reference's tags, sets and lists. -/
import Derived.Test.YtoaleijfpocdjaaRa
namespace Go.Proofs.Ytoaleijfpocdjaa
open Go.RowKit

set_option maxRecDepth 100000 in
set_option maxHeartbeats 1000000 in
theorem isSet_any (v : Value) (l : List Int) (w : World) (h : IntsAt w v l) : Calls Try.prog 18 #[.agg #[v]] w fun e w' => e = .returned (.bool (stB l)) ∧ Below w.heap.size w w' := by
  have HL := Lib.hid h
  obtain ⟨a, cap, rfl, hm, hc⟩ := h
  unfold maxLen at hm
  clear hc
  have HB0 := Lib.hid (al w (.cells #[.slice a l.length cap] 34))
  have KA := Lib.hid (Cs.new w w.heap.size #[.slice a l.length cap] 34 rfl)
  go_enter Try.func18, Try.ntmps18
  go_wp2_with fail
  go_loopw [3, 9] (fun t i wr => ∃ (k : Nat) (lo : Int), k ≤ l.length ∧ i = .int .i64 k ∧ t = .int .i64 lo ∧ 0 ≤ lo ∧ Hid (inc 0 l = inc lo (l.drop k)) ∧ Hid (Below w.heap.size w wr ∧ Cs wr w.heap.size #[.slice a l.length cap])) (fun _ i _ => l.length - (intOf i).toNat)
  case atStart => exact ⟨0, 0, by omega, rfl, rfl, by omega, rfl, HB0.out, KA.out⟩
  case round =>
    clear KA HB0
    obtain ⟨k, lo, hk, rfl, rfl, h0, HI, HB⟩ := hrel
    by_cases hlt : k < l.length
    · obtain ⟨a2, cap2, hva, -, hcs⟩ := HL.out.step HB.out.1
      obtain ⟨rfl, rfl⟩ : a = a2 ∧ cap = cap2 := by simpa using hva
      obtain ⟨b, off, rfl, hcs2⟩ := hcs (by intro h; rw [h] at hlt; simp at hlt)
      have hx := hcs2 k _ (getD_of hlt)
      have HI2 := Lib.hid (HI.out.trans (inc_drop hlt))
      clear hcs hcs2 hva HI
      generalize l.getD k 0 = x at *
      by_cases h1 : x < lo
      · have HF := Lib.hid (show inc 0 l = false by rw [HI2.out, decide_eq_false (by omega)]; rfl)
        have HF2 := Lib.hid (show stB l = false by unfold stB; rw [HF.out]; rfl)
        clear HI2
        have g1 : decide (x < lo) = true := by simp [h1]
        go_wp2
        go_ret
        exact ⟨ret_bool HF2.out.symm, HB.out.1⟩
      · by_cases h2 : x ≤ 2147483646
        · have HN := Lib.hid (show inc 0 l = inc (x + 1) (l.drop (k + 1)) by rw [HI2.out, decide_eq_true (by omega), decide_eq_true h2]; rfl)
          clear HI2
          have g1 : decide (x < lo) = false := by simp; omega
          have g2 : decide (x > 2147483646) = false := by simp; omega
          have g3 : decide (2147483646 < x) = false := by simp; omega
          have hwr : IntKind.i64.wrap (x + 1) = x + 1 := IntWalk.i64_in _ (by omega)
          go_wp2
          go_roundw
          case rel => exact ⟨k + 1, x + 1, by omega, by go_num, by go_num, by omega, HN, HB⟩
          case measure => simp [intOf]; omega
        · have HF := Lib.hid (show inc 0 l = false by rw [HI2.out, decide_eq_false h2]; simp)
          have HF2 := Lib.hid (show stB l = false by unfold stB; rw [HF.out]; rfl)
          clear HI2
          have g1 : decide (x < lo) = false := by simp; omega
          have g2 : decide (x > 2147483646) = true := by simp; omega
          have g3 : decide (2147483646 < x) = true := by simp; omega
          go_wp2
          go_ret
          exact ⟨ret_bool HF2.out.symm, HB.out.1⟩
    · obtain rfl : k = l.length := by omega
      have HF := Lib.hid (show stB l = decide (l.length ≤ 400) by unfold stB; rw [HI.out, List.drop_length]; rfl)
      have c0 := HB.out.2.c 0 rfl
      have cz := HB.out.2.2.2
      go_wp2
      go_ret
      exact ⟨ret_bool (by rw [HF.out]; simp; omega), HB.out.1⟩
end Go.Proofs.Ytoaleijfpocdjaa
