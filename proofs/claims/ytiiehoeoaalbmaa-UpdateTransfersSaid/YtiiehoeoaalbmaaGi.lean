/- Hash trees: 'Climb'. -/
import Derived.Test.YtiiehoeoaalbmaaGh
import Derived.BigQuiet
namespace Go.Proofs.Ytiiehoeoaalbmaa
open Go.RowKit

def noEl (x : Int) : Bool := decide (x < -1) || decide (2147483647 ≤ x)
theorem noEl_any (x : Int) (w : World) : Calls Try.prog 60 #[.int .i64 x] w fun e w' => e = .returned (.bool (noEl x)) ∧ w = w' := by
  by_cases h1 : x < -1
  · have HR := Lib.hid (show noEl x = true by unfold noEl; simp [h1])
    go_enter Try.func60, Try.ntmps60
    go_wp2
    go_ret
    exact ⟨ret_bool HR.out.symm, rfl⟩
  · by_cases h2 : 2147483647 ≤ x
    · have HR := Lib.hid (show noEl x = true by unfold noEl; simp [h2])
      go_enter Try.func60, Try.ntmps60
      go_wp2
      go_ret
      exact ⟨ret_bool HR.out.symm, rfl⟩
    · have HR := Lib.hid (show noEl x = false by unfold noEl; simp [h1, h2])
      go_enter Try.func60, Try.ntmps60
      go_wp2
      go_ret
      exact ⟨ret_bool HR.out.symm, rfl⟩
theorem any_none {l : List Int} (h : ∀ j, j < l.length → noEl (l.getD j 0) = false) : l.any noEl = false := by
  rw [List.any_eq_false]
  intro x hx
  obtain ⟨j, hj, rfl⟩ := List.getElem_of_mem hx
  have := h j hj
  simp [hj] at this
  simp [this]
theorem any_hit {l : List Int} {k : Nat} (h : k < l.length) (hb : noEl (l.getD k 0) = true) : l.any noEl = true := by
  rw [List.any_eq_true]
  exact ⟨l.getD k 0, by simp [h], hb⟩
set_option maxRecDepth 100000 in
set_option maxHeartbeats 2000000 in
theorem indexFunc_any (v : Value) (l : List Int) (w : World) (h : IntsAt w v l) : Calls Try.prog 73 #[v, .func (.func 60) #[] #[]] w fun e w' => (∃ k : Int, e = .returned (.int .i64 k) ∧ decide (0 ≤ k) = l.any noEl) ∧ w = w' := by
  obtain ⟨a, cap, rfl, hm, hc⟩ := h
  unfold maxLen at hm
  have HC := Lib.hid hc
  clear hc
  have heg : ∀ args w, (callFunc 60 args).run Try.prog w = .ok (.enter 60 args) w := fun _ _ => by kernel_rfl
  go_enter Try.func73, Try.ntmps73
  go_wp2_with fail
  go_loopw [8] (fun i wr => ∃ k : Nat, k ≤ l.length ∧ i = .int .i64 k ∧ Hid (∀ j, j < k → noEl (l.getD j 0) = false) ∧ wr = w) (fun i _ => l.length - (intOf i).toNat)
  case atStart => exact ⟨0, by omega, rfl, Lib.hid (fun j h => absurd h (by omega)), rfl⟩
  case round =>
    obtain ⟨k, hk, rfl, HN, rfl⟩ := hrel
    by_cases hlt : k < l.length
    · obtain ⟨b, off, rfl, hcs2⟩ := HC.out (by intro h; rw [h] at hlt; simp at hlt)
      have x0 := hcs2 k _ (getD_of hlt)
      clear hcs2
      have hf := any_hit hlt
      have HF := Lib.hid hf
      have HN2 := Lib.hid (show noEl (l.getD k 0) = false → ∀ j, j < k + 1 → noEl (l.getD j 0) = false from fun hx j h => by
        by_cases e : j = k
        · subst e; exact hx
        · exact HN.out j (by omega))
      clear hf HN
      generalize l.getD k 0 = x at *
      cases hb : noEl x
      · have HB := Lib.hid hb
        clear hb
        go_wp2_with fail
        refine (noEl_any x _).mono ?_
        rintro e w' ⟨rfl, rfl⟩
        rw [HB.out]
        go_wp2
        go_roundw
        case rel => exact ⟨k + 1, hlt, by go_num, Lib.hid (HN2.out HB.out), trivial⟩
        case measure => simp [intOf]; omega
      · have HB := Lib.hid hb
        clear hb
        go_wp2_with fail
        refine (noEl_any x _).mono ?_
        rintro e w' ⟨rfl, rfl⟩
        rw [HB.out]
        go_wp2
        go_ret
        exact ⟨⟨_, rfl, by rw [HF.out HB.out]; simp⟩, rfl⟩
    · obtain rfl : k = l.length := by omega
      have HA := Lib.hid (any_none HN.out)
      go_wp2
      go_ret
      exact ⟨⟨_, rfl, by rw [HA.out]; rfl⟩, rfl⟩
theorem contains_any (v : Value) (l : List Int) (w : World) (h : IntsAt w v l) : Calls Try.prog 59 #[v, .func (.func 60) #[] #[]] w fun e w' => e = .returned (.bool (l.any noEl)) ∧ w = w' := by
  have H := Lib.hid h
  clear h
  go_enter Try.func59, Try.ntmps59
  go_wp2_with fail
  refine (indexFunc_any v l _ H.out).mono ?_
  rintro e w' ⟨⟨k, rfl, hk⟩, rfl⟩
  have HK := Lib.hid hk
  clear hk
  go_wp2
  go_ret
  exact ⟨ret_bool HK.out, rfl⟩
end Go.Proofs.Ytiiehoeoaalbmaa
