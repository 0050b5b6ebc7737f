/- Sets of tags: how many the laws take; the examples. -/
import Derived.Test.YtpoldplmaomkaaaRl
namespace Go.Proofs.Ytpoldplmaomkaaa
open Go.RowKit

/-- A set of a size that the laws take. -/
def fwB (n : Nat) : Bool := !(decide (50 < n) && decide (n ≤ 390)) && decide (n ≤ 420)
/-- Slices behind a slice. -/
def SlsAt (w : World) (v : Value) (L : List (Option Addr × Nat × Nat)) : Prop := ∃ b c, v = .slice (some ⟨b, 0, none⟩) L.length c ∧ ∀ (i : Nat) (t : Option Addr × Nat × Nat), L[i]? = some t → w.cell? ⟨b, i, none⟩ = some (.slice t.1 t.2.1 t.2.2)
def zT : Option Addr × Nat × Nat := (none, 0, 0)
theorem fw_hit {L : List (Option Addr × Nat × Nat)} {k : Nat} (h : k < L.length) (hb : fwB (L.getD k zT).2.1 = false) : L.all (fun t => fwB t.2.1) = false := by
  rw [← Bool.not_eq_true, List.all_eq_true]
  intro hh
  have := hh (L[k]) (List.getElem_mem h)
  rw [show L.getD k zT = L[k] by simp [h]] at hb
  rw [hb] at this; cases this
theorem fw_all {L : List (Option Addr × Nat × Nat)} (h : ∀ j, j < L.length → fwB (L.getD j zT).2.1 = true) : L.all (fun t => fwB t.2.1) = true := by
  rw [List.all_eq_true]
  intro x hx
  obtain ⟨j, hj, rfl⟩ := List.mem_iff_getElem.1 hx
  have := h j hj
  rwa [show L.getD j zT = L[j] by simp [hj]] at this
theorem fw_get {L : List (Option Addr × Nat × Nat)} {k : Nat} (h : k < L.length) : L[k]? = some (L.getD k zT) := by simp [h]
theorem fw_true {n : Nat} (h : fwB n = true) : (n ≤ 50 ∨ (390 < n ∧ n ≤ 420)) := by
  unfold fwB at h; simp at h; omega
theorem fw_false {n : Nat} (h : fwB n = false) : ((50 < n ∧ n ≤ 390) ∨ 420 < n) := by
  unfold fwB at h
  rcases Nat.lt_or_ge 420 n with h1 | h1
  · exact .inr h1
  · simp [h1] at h; exact .inl h
set_option maxRecDepth 100000 in
set_option maxHeartbeats 4000000 in
theorem few_any (v : Value) (L : List (Option Addr × Nat × Nat)) (w : World) (h : SlsAt w v L) (hl : L.length ≤ 10) (hn : ∀ t ∈ L, t.2.1 ≤ maxLen) : Calls Try.prog 10 #[v] w fun e w' => e = .returned (.bool (L.all fun t => fwB t.2.1)) ∧ w = w' := by
  obtain ⟨FW, hFW⟩ : ∃ FW, (L.all fun t => fwB t.2.1) = FW := ⟨_, rfl⟩
  rw [hFW]
  have HFW := Lib.hid hFW
  clear hFW
  obtain ⟨b, c, rfl, hc⟩ := h
  have HC := Lib.hid hc
  have HN := Lib.hid hn
  clear hc hn
  go_enter Try.func10, Try.ntmps10
  go_wp2_with fail
  go_loop [3] (fun i => ∃ k : Nat, k ≤ L.length ∧ i = .int .i64 k ∧ Hid (∀ j, j < k → fwB (L.getD j zT).2.1 = true)) (fun i => L.length - (intOf i).toNat)
  case atStart => exact ⟨0, by omega, rfl, Lib.hid fun j h => absurd h (by omega)⟩
  case round =>
    obtain ⟨k, hk, rfl, HI⟩ := hrel
    by_cases hlt : k < L.length
    · have hx := HC.out k _ (fw_get hlt)
      have hm := HN.out (L.getD k zT) (by simp [hlt])
      unfold maxLen at hm
      cases hf : fwB (L.getD k zT).2.1
      · have HF := Lib.hid ((fw_hit hlt hf).symm.trans HFW.out)
        have hf := fw_false hf
        generalize L.getD k zT = t at *
        obtain ⟨ta, tn, tc⟩ := t
        simp only at hx hf hm
        rcases hf with hf | hf
        · have g1 : decide ((tn : Int) > 50) = true := by simp; omega
          have g2 : decide ((tn : Int) ≤ 390) = true := by simp; omega
          have g3 : decide ((50 : Int) < (tn : Int)) = true := by simp; omega
          go_wp2
          go_ret
          exact ⟨ret_bool HF.out, rfl⟩
        · have g1 : decide ((tn : Int) > 50) = true := by simp; omega
          have g2 : decide ((tn : Int) ≤ 390) = false := by simp; omega
          have g3 : decide ((50 : Int) < (tn : Int)) = true := by simp; omega
          have g4 : decide ((tn : Int) > 420) = true := by simp; omega
          have g5 : decide ((420 : Int) < (tn : Int)) = true := by simp; omega
          go_wp2
          go_ret
          exact ⟨ret_bool HF.out, rfl⟩
      · have HN2 := Lib.hid (show ∀ j, j < k + 1 → fwB (L.getD j zT).2.1 = true from fun j h => by
          by_cases e : j = k
          · subst e; exact hf
          · exact HI.out j (by omega))
        have hf := fw_true hf
        generalize L.getD k zT = t at *
        obtain ⟨ta, tn, tc⟩ := t
        simp only at hx hf hm
        rcases hf with hf | hf
        · have g1 : decide ((tn : Int) > 50) = false := by simp; omega
          have g3 : decide ((50 : Int) < (tn : Int)) = false := by simp; omega
          have g4 : decide ((tn : Int) > 420) = false := by simp; omega
          have g5 : decide ((420 : Int) < (tn : Int)) = false := by simp; omega
          go_wp2
          go_round
          case rel => exact ⟨k + 1, by omega, by go_num, HN2⟩
          case measure => simp [intOf]; omega
        · have g1 : decide ((tn : Int) > 50) = true := by simp; omega
          have g2 : decide ((tn : Int) ≤ 390) = false := by simp; omega
          have g3 : decide ((50 : Int) < (tn : Int)) = true := by simp; omega
          have g4 : decide ((tn : Int) > 420) = false := by simp; omega
          have g5 : decide ((420 : Int) < (tn : Int)) = false := by simp; omega
          go_wp2
          go_round
          case rel => exact ⟨k + 1, by omega, by go_num, HN2⟩
          case measure => simp [intOf]; omega
    · have HF := Lib.hid ((fw_all fun j hj => HI.out j (by omega)).symm.trans HFW.out)
      go_wp2
      go_ret
      exact ⟨ret_bool HF.out, rfl⟩
end Go.Proofs.Ytpoldplmaomkaaa
