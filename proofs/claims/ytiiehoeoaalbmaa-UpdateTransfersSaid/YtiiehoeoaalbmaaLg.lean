/- Two lists of numbers are equal or not. -/
import Derived.Test.YtiiehoeoaalbmaaLe
namespace Go.Proofs.Ytiiehoeoaalbmaa
open Go.RowKit

theorem take_eq_iff {l l' : List Int} (k : Nat) (hk : k < l.length) (hk' : k < l'.length) (h : l.take k = l'.take k) : l.take (k + 1) = l'.take (k + 1) ↔ l.getD k 0 = l'.getD k 0 := by
  rw [List.take_succ_eq_append_getElem hk, List.take_succ_eq_append_getElem hk', h, List.append_right_inj]
  simp [hk, hk']
set_option maxRecDepth 100000 in
set_option maxHeartbeats 2000000 in
theorem ints_any (v u : Value) (l l' : List Int) (w : World) (h : IntsAt w v l) (h' : IntsAt w u l') :
    Calls Try.prog 21 #[v, u] w fun e w' => e = .returned (.bool (decide (l = l'))) ∧ ∃ n, w' = w.drewN n := by
  obtain ⟨a, cap, rfl, hm, hc⟩ := h
  obtain ⟨a', cap', rfl, hm', hc'⟩ := h'
  unfold maxLen at hm hm'
  have HC := Lib.hid hc
  have HC' := Lib.hid hc'
  clear hc hc'
  by_cases hl : l.length = l'.length
  · have hl1 : ((l.length : Int) != (l'.length : Int)) = false := by simp [hl]
    go_enter Try.func21, Try.ntmps21
    go_wp2_with fail
    go_loopw [5] (fun i wr => ∃ k n : Nat, k ≤ l.length ∧ i = .int .i64 k ∧ Hid (l.take k = l'.take k) ∧ wr = w.drewN n) (fun i _ => l.length - (intOf i).toNat)
    case atStart => exact ⟨0, 0, by omega, rfl, Lib.hid (by simp), rfl⟩
    case round =>
      obtain ⟨k, n, hk, rfl, hT, rfl⟩ := hrel
      by_cases hlt : k < l.length
      · obtain ⟨b, off, rfl, hcs⟩ := HC.out (by intro h; rw [h] at hlt; simp at hlt)
        obtain ⟨b', off', rfl, hcs'⟩ := HC'.out (by intro h; rw [h] at hl; simp at hl; rw [hl] at hlt; simp at hlt)
        have hx := hcs k _ (getD_of hlt)
        have hlt' : k < l'.length := by omega
        have hx' := hcs' k _ (getD_of hlt')
        have HE := Lib.hid (take_eq_iff k hlt hlt' hT.out)
        clear hcs hcs'
        obtain ⟨wq, hwq⟩ : ∃ wq, w.drewN n = wq := ⟨_, rfl⟩
        have hx2 : wq.cell? ⟨b, off + k, none⟩ = some (.int .i64 (l.getD k 0)) := by rw [← hwq]; exact hx
        have hx3 : wq.cell? ⟨b', off' + k, none⟩ = some (.int .i64 (l'.getD k 0)) := by rw [← hwq]; exact hx'
        have hNE := Lib.hid (show l.getD k 0 ≠ l'.getD k 0 → ¬ l = l' from fun hne e => hne (by rw [e]))
        rw [hwq]
        have HW := Lib.hid hwq
        clear hwq hx hx'
        generalize l.getD k 0 = x at *
        generalize l'.getD k 0 = y at *
        by_cases hxy : x = y
        · have e1 : (x != y) = false := by simp [hxy]
          have hT2 := Lib.hid (HE.out.2 hxy)
          subst hxy
          clear HE hNE
          go_wp2_with fail
          go_quiet (fail)
          go_wp2
          go_roundw
          case rel => exact ⟨k + 1, _, by omega, by go_num, hT2, by rw [← HW.out]; exact World.drewN_drewN _ _ _⟩
          case measure => simp [intOf]; omega
        · have e1 : (x != y) = true := by simp [hxy]
          have e2 : (x == y) = false := by simp [hxy]
          have hF := Lib.hid (hNE.out hxy)
          clear HE hNE
          go_wp2_with fail
          go_quiet (fail)
          go_wp2
          go_ret
          exact ⟨ret_bool (by rw [decide_eq_false hF.out]), _, by rw [← HW.out]; exact World.drewN_drewN _ _ _⟩
      · have hF := Lib.hid (show l = l' by have := hT.out; rwa [List.take_of_length_le (by omega), List.take_of_length_le (by omega)] at this)
        have hlt2 : l'.length ≤ k := by omega
        go_wp2
        go_ret
        exact ⟨ret_bool (by rw [decide_eq_true hF.out]), _, rfl⟩
  · have hl1 : ((l.length : Int) != (l'.length : Int)) = true := by simp; omega
    have hl2 : ((l.length : Int) == (l'.length : Int)) = false := by simp; omega
    have hF := Lib.hid (show ¬ l = l' from fun e => hl (by rw [e]))
    go_enter Try.func21, Try.ntmps21
    go_wp2
    go_ret
    exact ⟨ret_bool (by rw [decide_eq_false hF.out]), 0, rfl⟩
end Go.Proofs.Ytiiehoeoaalbmaa
