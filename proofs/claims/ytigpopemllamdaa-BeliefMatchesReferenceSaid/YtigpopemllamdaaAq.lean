/- Beliefs: 'Sent', 'Confirmed', 'Reported'. -/
import Derived.Test.YtigpopemllamdaaAo
namespace Go.Proofs.Ytigpopemllamdaa
open Go.RowKit

theorem eg38 : ∀ (args : Array Value) (w : World), (callFunc 38 args).run Try.prog w = .ok (.enter 38 args) w := fun _ _ => by kernel_rfl
theorem eg43 : ∀ (args : Array Value) (w : World), (callFunc 43 args).run Try.prog w = .ok (.enter 43 args) w := fun _ _ => by kernel_rfl
theorem eg45 : ∀ (args : Array Value) (w : World), (callFunc 45 args).run Try.prog w = .ok (.enter 45 args) w := fun _ _ => by kernel_rfl
theorem wk_num : ∀ (L : List Od) (l : Od), wk l L = true → ∀ x ∈ L, -1000 ≤ x.a ∧ x.a ≤ 1000000000 := by
  intro L
  induction L with
  | nil => intro l _ x hx; cases hx
  | cons y L ih =>
    intro l h x hx
    unfold wk at h
    rw [Bool.and_eq_true] at h
    have h1 := h.1
    unfold okR at h1
    simp only [Bool.and_eq_true, inr_iff] at h1
    rcases List.mem_cons.1 hx with rfl | hx
    · have := h1.1.1.1; omega
    · by_cases hs : stB y = true
      · rw [if_pos hs] at h; exact ih _ h.2 x hx
      · rw [if_neg hs, Bool.and_eq_true] at h; exact ih _ h.2.2 x hx
theorem isV_num {V : List Int} {L : List Od} (h : isV V L = true) : ∀ x ∈ L, -1000 ≤ x.a ∧ x.a ≤ 1000000000 := by
  unfold isV at h
  simp only [Bool.and_eq_true] at h
  exact wk_num L l0 h.1.2
end Go.Proofs.Ytigpopemllamdaa
