/- The reference's winners, as lists. -/
import Derived.Test.YtloilkfloidnjaaH
namespace Go.Proofs.Ytloilkfloidnjaa
open Go.RowKit Go.WideMaps

def nameAt (N : List ByteArray) (m : Nat) : ByteArray := N.getD m ⟨#[]⟩
/-- The reference's winner among the first names. -/
def rwN (L : List Scn) (N : List ByteArray) (d a : ByteArray) : Nat → Int
  | 0 => -1
  | m + 1 => if (lI (stN L (ixOf L (nameAt N m))) d a).isSome && (decide (rwN L N d a m < 0) || decide (lyr L (rwN L N d a m).toNat ≤ lyr L (ixOf L (nameAt N m)))) then (ixOf L (nameAt N m) : Int) else rwN L N d a m
def rW (L : List Scn) (N : List ByteArray) (d a : ByteArray) : Int := if kn L N then rwN L N d a N.length else -1
theorem name_get {N : List ByteArray} {m : Nat} (h : m < N.length) : N[m]? = some (nameAt N m) := by simp [nameAt, List.getD_eq_getElem?_getD, h]
theorem fInt_ix {L : List Scn} {N : List ByteArray} (hkn : kn L N = true) {m : Nat} (h : m < N.length) : fInt (fI L (nameAt N m)) = (ixOf L (nameAt N m) : Int) ∧ ixOf L (nameAt N m) < L.length := by
  have hm : nameAt N m ∈ N := List.mem_of_getElem? (name_get h)
  have hlt := ixs_lt hkn (ixOf L (nameAt N m)) (List.mem_map.2 ⟨_, hm, rfl⟩)
  unfold kn at hkn
  have := List.all_eq_true.1 hkn _ hm
  obtain ⟨k, hk⟩ := Option.isSome_iff_exists.1 this
  refine ⟨?_, hlt⟩
  unfold ixOf
  rw [hk]; rfl
theorem rw_cases {L : List Scn} {o : Bool} {nb : Int} {k : Nat} (hnb : nb = -1 ∨ ∃ q : Nat, nb = (q : Int) ∧ q < L.length) (r : Int) (h : r = if o && (decide (nb < 0) || decide (lyr L nb.toNat ≤ lyr L k)) then (k : Int) else nb) :
    (o = false ∧ r = nb) ∨ (o = true ∧ nb = -1 ∧ r = k) ∨ (∃ q : Nat, o = true ∧ nb = (q : Int) ∧ q < L.length ∧ decide (lyr L q ≤ lyr L k) = false ∧ r = nb) ∨ (∃ q : Nat, o = true ∧ nb = (q : Int) ∧ q < L.length ∧ decide (lyr L q ≤ lyr L k) = true ∧ r = k) := by
  cases o
  · exact Or.inl ⟨rfl, by simpa using h⟩
  · rcases hnb with rfl | ⟨q, rfl, hq⟩
    · exact Or.inr (Or.inl ⟨rfl, rfl, by simpa using h⟩)
    · have e : decide (((q : Nat) : Int) < 0) = false := by rw [decide_eq_false_iff_not]; omega
      rw [e, Int.toNat_natCast, Bool.false_or, Bool.true_and] at h
      cases ht : decide (lyr L q ≤ lyr L k)
      · rw [ht] at h; exact Or.inr (Or.inr (Or.inl ⟨q, rfl, rfl, hq, ht, by simpa using h⟩))
      · rw [ht] at h; exact Or.inr (Or.inr (Or.inr ⟨q, rfl, rfl, hq, ht, by simpa using h⟩))
end Go.Proofs.Ytloilkfloidnjaa
