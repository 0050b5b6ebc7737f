/- The contract of the reference's 'Gap'. -/
import Derived.Test.YtaokedpcijmncaaDoorN
namespace Go.Proofs.YtaokedpcijmncaaDoor
open Go.RowKit Go.Maps

theorem kt_sp : ∀ n : Fin 256, kt.getD n.val 0 = 16 ↔ (n.val = 32 ∨ n.val = 9 ∨ n.val = 10) := by decide +kernel
theorem kt_ha : ∀ n : Fin 256, kt.getD n.val 0 = 32 ↔ n.val = 35 := by decide +kernel
theorem kb_sp (c : UInt8) : kb c = 16 ↔ (c.toNat = 32 ∨ c.toNat = 9 ∨ c.toNat = 10) := kt_sp ⟨c.toNat, c.toNat_lt⟩
theorem kb_ha (c : UInt8) : kb c = 32 ↔ c.toNat = 35 := kt_ha ⟨c.toNat, c.toNat_lt⟩
theorem ten_iff (c : UInt8) : c.toNat = 10 ↔ c = 10 := ⟨fun h => UInt8.toNat_inj.1 h, fun h => by rw [h]; rfl⟩
/-- Where a gap leads from an offset on. -/
def gp (s : ByteArray) (i : Nat) : Nat := i + gapF false (sfx s i)
/-- Where a comment leads. -/
def cp (s : ByteArray) (i : Nat) : Nat := i + gapF true (sfx s i)
theorem gp_space {s : ByteArray} {j : Nat} (h : j < s.size) (hs : s[j].toNat = 32 ∨ s[j].toNat = 9 ∨ s[j].toNat = 10) : gp s j = gp s (j + 1) := by
  unfold gp; rw [sfx_cons h, gapF, if_pos ((kb_sp _).2 hs)]; omega
theorem gp_hash {s : ByteArray} {j : Nat} (h : j < s.size) (hs : s[j].toNat = 35) : gp s j = cp s j := by
  unfold gp cp
  rw [sfx_cons h, gapF, if_neg (by rw [kb_sp]; omega), if_pos ((kb_ha _).2 hs), gapF]
  rw [show (s[j] != 10) = true by simp; intro e; rw [e] at hs; simp at hs]
theorem gp_stop {s : ByteArray} {j : Nat} (h : j < s.size) (hs : ¬ (s[j].toNat = 32 ∨ s[j].toNat = 9 ∨ s[j].toNat = 10)) (hc : s[j].toNat ≠ 35) : gp s j = j := by
  unfold gp; rw [sfx_cons h, gapF, if_neg (by rw [kb_sp]; exact hs), if_neg (by rw [kb_ha]; exact hc)]; rfl
theorem gp_end {s : ByteArray} {j : Nat} (h : s.size ≤ j) : gp s j = j := by unfold gp; rw [sfx_nil h]; rfl
theorem cp_end {s : ByteArray} {j : Nat} (h : s.size ≤ j) : cp s j = gp s j := by unfold cp gp; rw [sfx_nil h]; rfl
theorem cp_step {s : ByteArray} {j : Nat} (h : j < s.size) (hn : s[j].toNat ≠ 10) : cp s j = cp s (j + 1) := by
  unfold cp
  rw [sfx_cons h, gapF, show (s[j] != 10) = true by simp; intro e; exact hn ((ten_iff _).2 e)]; omega
theorem cp_line {s : ByteArray} {j : Nat} (h : j < s.size) (hn : s[j].toNat = 10) : cp s j = gp s j := by
  rw [gp_space h (.inr (.inr hn))]
  unfold cp gp
  rw [sfx_cons h, gapF, show (s[j] != 10) = false by simp; exact (ten_iff _).1 hn]; omega

set_option maxRecDepth 100000 in
set_option maxHeartbeats 2000000 in
theorem gap11 (s : ByteArray) (i : Int) (w : World) (hs : s.size ≤ 2 ^ 62) (hi : 0 ≤ i) :
    Calls Tryd.prog 11 #[.string s, .int .i64 i] w fun e w' => e = .returned (.int .i64 (gp s i.toNat)) ∧ w = w' := by
  obtain ⟨i, rfl⟩ := Int.eq_ofNat_of_zero_le hi
  rw [Int.toNat_natCast]
  clear hi
  go_enter Tryd.func11, Tryd.ntmps11
  go_wp2_with fail
  go_loop [1] (fun t => ∃ j : Nat, Hid (gp s j = gp s i) ∧ t = .int .i64 j) (fun t => s.size - (intOf t).toNat)
  case atStart => exact ⟨i, rfl, rfl⟩
  case round =>
    obtain ⟨j, HJ, rfl⟩ := hrel
    by_cases hlt : j < s.size
    · by_cases h32 : s[j].toNat = 32 ∨ s[j].toNat = 9 ∨ s[j].toNat = 10
      · have HG := Lib.hid (gp_space hlt h32)
        have ht : (((s[j].toNat : Int) == 32) = true) ∨ (((s[j].toNat : Int) == 32) = false ∧ ((s[j].toNat : Int) == 9) = true) ∨ (((s[j].toNat : Int) == 32) = false ∧ ((s[j].toNat : Int) == 9) = false ∧ ((s[j].toNat : Int) == 10) = true) := by
          simp only [beq_iff_eq, beq_eq_false_iff_ne, ne_eq]; omega
        clear h32
        rcases ht with hx | ⟨hx, hy⟩ | ⟨hx, hy, hz⟩
        all_goals
          go_wp2_with fail
          go_round
          case rel => exact ⟨j + 1, HG.out.symm.trans HJ.out, by go_num⟩
          case measure => simp [intOf]; omega
      · have hx : ((s[j].toNat : Int) == 32) = false := by simp only [beq_eq_false_iff_ne, ne_eq]; omega
        have hy : ((s[j].toNat : Int) == 9) = false := by simp only [beq_eq_false_iff_ne, ne_eq]; omega
        have hz : ((s[j].toNat : Int) == 10) = false := by simp only [beq_eq_false_iff_ne, ne_eq]; omega
        by_cases h35 : s[j].toNat = 35
        · have HG := Lib.hid (gp_hash hlt h35)
          have H35 := Lib.hid h35
          have hv : ((s[j].toNat : Int) == 35) = true := by simp only [beq_iff_eq]; omega
          clear h32 h35
          go_wp2_with fail
          go_loop [1] (fun t => ∃ m : Nat, Hid (cp s m = gp s i) ∧ j ≤ m ∧ t = .int .i64 m) (fun t => s.size - (intOf t).toNat)
          case atStart => exact ⟨j, HG.out.symm.trans HJ.out, Nat.le_refl _, rfl⟩
          case round =>
            obtain ⟨m, HM, hjm, rfl⟩ := hrel
            clear hx hy hz hv
            by_cases hlm : m < s.size
            · by_cases h10 : s[m].toNat = 10
              · have hmj : j ≠ m := by
                  intro e; subst e; have := H35.out; omega
                have HG2 := Lib.hid (cp_line hlm h10)
                have hw : ((s[m].toNat : Int) != 10) = false := by simp only [bne_eq_false_iff_eq]; omega
                clear h10
                go_wp2_with fail
                go_round
                case rel => exact ⟨m, HG2.out.symm.trans HM.out, rfl⟩
                case measure => simp [intOf]; omega
              · have HG2 := Lib.hid (cp_step hlm h10)
                have hw : ((s[m].toNat : Int) != 10) = true := by simp only [bne_iff_ne, ne_eq]; omega
                clear h10
                go_wp2_with fail
                go_round
                case rel => exact ⟨m + 1, HG2.out.symm.trans HM.out, by omega, by go_num⟩
                case measure => simp [intOf]; omega
            · have HG2 := Lib.hid (cp_end (s := s) (j := m) (by omega))
              go_wp2_with fail
              go_round
              case rel => exact ⟨m, HG2.out.symm.trans HM.out, rfl⟩
              case measure => simp [intOf]; omega
        · have HG := Lib.hid (gp_stop hlt h32 h35)
          have hv : ((s[j].toNat : Int) == 35) = false := by simp only [beq_eq_false_iff_ne, ne_eq]; omega
          clear h32 h35
          go_wp2_with fail
          go_ret
          exact ⟨ret_int (by rw [← HJ.out, HG.out]), rfl⟩
    · have HG := Lib.hid (gp_end (s := s) (j := j) (by omega))
      go_wp2_with fail
      go_ret
      exact ⟨ret_int (by rw [← HJ.out, HG.out]), rfl⟩
end Go.Proofs.YtaokedpcijmncaaDoor
