/- The window: 'Accept' of a well-formed window; well-formed windows stay so. -/
import Derived.Test.YtkamkkjijjkfdaaXb
import Derived.Test.YtkamkkjijjkfdaaXc
import Derived.Test.YtkamkkjijjkfdaaXd
import Derived.Test.YtkamkkjijjkfdaaXe
namespace Go.Proofs.Ytkamkkjijjkfdaa
open Go.RowKit

/-- A well-formed window. -/
def WF (t : Int) (L : List Bool) : Prop := L.length = 16 ∧ -1 ≤ t ∧ t ≤ 1000000 ∧ (0 ≤ t → L.getD 0 false = true) ∧ ∀ j : Nat, t < j → L.getD j false = false
theorem isw_wf {t : Int} {L : List Bool} (a : Option Addr) (c : Nat) (h : WF t L) (hc : 16 ≤ c) : IsW t a 16 c L true := by
  obtain ⟨h1, h2, h3, h4, h5⟩ := h
  intro W hb
  by_cases ht : t = -1
  · subst ht
    have e : L = List.replicate 16 false := by
      apply List.ext_getElem
      · rw [h1, List.length_replicate]
      · intro j g1 g2
        have := h5 j (by omega)
        rw [show L.getD j false = L[j] by simp [g1]] at this
        rw [this, List.getElem_replicate]
    rw [e] at hb
    exact isw_new _ W hb
  · obtain ⟨n, rfl⟩ := Int.eq_ofNat_of_zero_le (show 0 ≤ t by omega)
    obtain ⟨k, rfl⟩ : ∃ k, c = k + 16 := ⟨c - 16, by omega⟩
    have hw : wkB n L = true := by
      unfold wkB
      rw [h4 (by omega), Bool.true_and, Bool.not_eq_true', List.any_eq_false]
      intro x hx
      obtain ⟨j, hj, rfl⟩ := List.getElem_of_mem hx
      rw [List.length_drop] at hj
      rw [List.getElem_drop]
      have h6 := h5 (min (n + 1) 16 + j) (by omega)
      rw [show L.getD (min (n + 1) 16 + j) false = L[min (n + 1) 16 + j]'(by omega) by simp [show min (n + 1) 16 + j < L.length by omega]] at h6
      rw [h6]
      simp
    have h := isw_old n a k L W hb h1 (by omega)
    rw [hw] at h
    exact h
/-- What 'Accept' says of a well-formed window. -/
def accT (t : Int) (_ : List Bool) (s : Int) : Int := if s < 0 ∨ 1000000 < s then t else if t < s then s else t
def accL (t : Int) (L : List Bool) (s : Int) : List Bool := if s < 0 ∨ 1000000 < s then L else if t < s then shL L (s - t).toNat else if 16 ≤ t - s then L else if L.getD (t - s).toNat false = true then L else L.set (t - s).toNat true
def accE (t : Int) (L : List Bool) (s : Int) : Int := if s < 0 ∨ 1000000 < s then 1 else if t < s then 0 else if 16 ≤ t - s then 16 else if L.getD (t - s).toNat false = true then 16 else 0
theorem accept_wf (t : Int) (a : Option Addr) (c : Nat) (L : List Bool) (s : Int) (w : World) (h : BosAt w (.slice a 16 c) L) (hw : WF t L) (hc : 16 ≤ c) : Calls Try.prog 51 #[.agg #[.int .i64 t, .slice a 16 c], .int .i64 s] w (AcP w (accT t L s) (accL t L s) (accE t L s)) := by
  have hi := isw_wf a c hw hc
  obtain ⟨h1, h2, h3, -, -⟩ := hw
  unfold accT accL accE
  by_cases q1 : s < 0 ∨ 1000000 < s
  · rw [if_pos q1, if_pos q1, if_pos q1]
    rcases q1 with q1 | q1
    · exact accept_neg t a 16 c L s w h h1 (by omega) hi q1
    · exact accept_big t a 16 c L s w h h1 (by omega) hi q1
  · rw [if_neg q1, if_neg q1, if_neg q1]
    by_cases q2 : t < s
    · rw [if_pos q2, if_pos q2, if_pos q2]
      exact accept_shift t a c L s w h h1 hi (by omega) (s - t).toNat (by omega)
    · rw [if_neg q2, if_neg q2, if_neg q2]
      by_cases q3 : 16 ≤ t - s
      · rw [if_pos q3, if_pos q3]
        exact accept_far t a 16 c L s w h h1 (by omega) hi (by omega) h3 q3
      · rw [if_neg q3, if_neg q3]
        by_cases q4 : L.getD (t - s).toNat false = true
        · rw [if_pos q4, if_pos q4]
          exact accept_seen t a 16 c L s w h h1 (by omega) hi (by omega) h3 (t - s).toNat (by omega) q4
        · rw [if_neg q4, if_neg q4]
          exact accept_set t a 16 c L s w h h1 (by omega) hi (by omega) h3 (t - s).toNat (by omega) (by simpa using q4)
theorem shL_len (L : List Bool) (d : Nat) : (shL L d).length = 16 := by simp [shL]
theorem shL_get (L : List Bool) (d j : Nat) (hj : j < 16) : (shL L d).getD j false = ((j == 0) || (decide (d ≤ j) && L.getD (j - d) false)) := by
  rw [show (shL L d).getD j false = (shL L d)[j]'(by rw [shL_len]; exact hj) by simp [shL_len, hj]]
  simp [shL, shv, hj]
theorem getD_none {L : List Bool} {j : Nat} (h : L.length ≤ j) : L.getD j false = false := by
  simp [List.getD_eq_getElem?_getD, List.getElem?_eq_none h]
theorem wf_new : WF (-1) (List.replicate 16 false) := by
  refine ⟨by simp, by omega, by omega, fun h => by omega, fun j _ => ?_⟩
  by_cases hj : j < 16
  · rw [List.getD_eq_getElem?_getD, List.getElem?_replicate, if_pos hj]; rfl
  · exact getD_none (by simp; omega)
theorem wf_acc {t : Int} {L : List Bool} (s : Int) (h : WF t L) : WF (accT t L s) (accL t L s) := by
  have h0 := h
  obtain ⟨h1, h2, h3, h4, h5⟩ := h
  unfold accT accL
  by_cases q1 : s < 0 ∨ 1000000 < s
  · rw [if_pos q1, if_pos q1]; exact h0
  · rw [if_neg q1, if_neg q1]
    by_cases q2 : t < s
    · rw [if_pos q2, if_pos q2]
      refine ⟨shL_len _ _, by omega, by omega, fun _ => by rw [shL_get _ _ _ (by omega)]; rfl, fun j hj => ?_⟩
      by_cases hj16 : j < 16
      · rw [shL_get _ _ _ hj16, h5 (j - (s - t).toNat) (by omega)]
        have : (j == 0) = false := by simp; omega
        rw [this]
        simp
      · exact getD_none (by rw [shL_len]; omega)
    · rw [if_neg q2, if_neg q2]
      by_cases q3 : 16 ≤ t - s
      · rw [if_pos q3]; exact h0
      · rw [if_neg q3]
        by_cases q4 : L.getD (t - s).toNat false = true
        · rw [if_pos q4]; exact h0
        · rw [if_neg q4]
          have hg : ∀ j, (L.set (t - s).toNat true).getD j false = if (t - s).toNat = j then true else L.getD j false := fun j => by
            rw [List.getD_eq_getElem?_getD, List.getElem?_set]
            by_cases e : (t - s).toNat = j
            · rw [if_pos e, if_pos (by omega), if_pos e]; rfl
            · rw [if_neg e, if_neg e, List.getD_eq_getElem?_getD]
          refine ⟨by rw [List.length_set]; exact h1, h2, h3, fun hp => ?_, fun j hj => ?_⟩
          · rw [hg, h4 hp]; split <;> rfl
          · rw [hg, if_neg (by omega)]; exact h5 j hj
end Go.Proofs.Ytkamkkjijjkfdaa
