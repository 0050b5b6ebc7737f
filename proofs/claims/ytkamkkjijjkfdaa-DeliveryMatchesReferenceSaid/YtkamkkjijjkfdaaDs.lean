/- Delivery, plain facts: a number is confirmed once. -/
import Derived.Test.YtkamkkjijjkfdaaDk
namespace Go.Proofs.Ytkamkkjijjkfdaa
open Go.RowKit

theorem sn_next {nx : Int} {L : List Od} (h : SnP nx L) {k : Nat} (hk : k + 1 < L.length) : (L.getD k zO).a < (L.getD (k + 1) zO).a := by
  have h1 := (h.2 (k + 1) hk).2.1
  have h2 : lst nx L (k + 1) = (L.getD k zO).a + 1 := rfl
  omega
theorem sn_lt {nx : Int} {L : List Od} (h : SnP nx L) {i : Nat} : ∀ d, i + d + 1 < L.length → (L.getD i zO).a < (L.getD (i + d + 1) zO).a
  | 0, hd => sn_next h hd
  | d + 1, hd => by
    have h1 := sn_lt h (i := i) d (by omega)
    have h2 := sn_next h (k := i + d + 1) hd
    rw [show i + (d + 1) + 1 = i + d + 1 + 1 by omega]
    omega
theorem cut_get {L : List Od} {i j : Nat} (hi : i < L.length) : (L.take i ++ L.drop (i + 1)).getD j zO = if j < i then L.getD j zO else L.getD (j + 1) zO := by
  simp only [List.getD_eq_getElem?_getD]
  by_cases h : j < i
  · rw [if_pos h, List.getElem?_append_left (by rw [List.length_take]; omega), List.getElem?_take, if_pos h]
  · rw [if_neg h, List.getElem?_append_right (by rw [List.length_take]; omega), List.getElem?_drop, List.length_take, show i + 1 + (j - min i L.length) = j + 1 by omega]
theorem cut_len {L : List Od} {i : Nat} (hi : i < L.length) : (L.take i ++ L.drop (i + 1)).length = L.length - 1 := by
  rw [List.length_append, List.length_take, List.length_drop]; omega
/-- What is confirmed is pending no more. -/
theorem cut_none {nx seq : Int} {L : List Od} {i : Nat} (h : SnP nx L) (hf : fdI seq L 0 = some i) : fdI seq (L.take i ++ L.drop (i + 1)) 0 = none := by
  obtain ⟨-, hi, he, hb⟩ := fdI_some.1 hf
  simp only [Nat.sub_zero] at hi he hb
  rw [fdI_none]
  intro j hj
  rw [cut_len hi] at hj
  rw [cut_get hi]
  split
  · rename_i hlt; exact hb j hlt
  · have h1 := sn_lt h (i := i) (j - i) (by omega)
    rw [show i + (j - i) + 1 = j + 1 by omega] at h1
    omega
theorem cf_twice {nx seq : Int} {L : List Od} {r r2 : Bool} (hr : r = true ↔ SnP nx L) (hr2 : r2 = true ↔ SnP nx (cfL nx seq L r)) : cfL nx seq (cfL nx seq L r) r2 = cfL nx seq L r := by
  cases r with
  | false =>
    have e : cfL nx seq L false = L := rfl
    rw [e] at hr2 ⊢
    have : r2 = false := Bool.eq_false_iff.2 fun h => absurd (hr.2 (hr2.1 h)) (by simp)
    rw [this]; rfl
  | true =>
    cases hf : fdI seq L 0 with
    | none =>
      have e : cfL nx seq L true = L := by unfold cfL; rw [hf]
      rw [e]
      cases r2
      · rfl
      · unfold cfL; rw [hf]
    | some i =>
      have e : cfL nx seq L true = L.take i ++ L.drop (i + 1) := by unfold cfL; rw [hf]
      rw [e]
      cases r2
      · rfl
      · unfold cfL; rw [cut_none (hr.1 rfl) hf]
theorem has_iff {L : List Od} {q : Int} : (L.any fun x => x.a == q) = (fdI q L 0).isSome := by
  cases hf : fdI q L 0 with
  | none =>
    rw [fdI_none] at hf
    simp only [Option.isSome_none]
    rw [List.any_eq_false]
    intro x hx
    obtain ⟨j, hj⟩ := List.getElem?_of_mem hx
    have hjl : j < L.length := (List.getElem?_eq_some_iff.1 hj).1
    have := hf j hjl
    rw [od_get hjl] at hj
    cases hj
    simpa using this
  | some i =>
    obtain ⟨-, hi, he, -⟩ := fdI_some.1 hf
    simp only [Nat.sub_zero] at hi he
    simp only [Option.isSome_some]
    rw [List.any_eq_true]
    exact ⟨_, List.mem_of_getElem? (od_get hi), by simpa using he⟩
end Go.Proofs.Ytkamkkjijjkfdaa
