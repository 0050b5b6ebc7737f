/- Beliefs, the reference: 'Confirmed' (plain facts). -/
import Derived.Test.YtigpopemllamdaaEb
import Derived.Test.YtigpopemllamdaaCe
namespace Go.Proofs.Ytigpopemllamdaa
open Go.RowKit

theorem chq_zero {V' : List Int} {M' : List Od} {E : Int} {w w' : World} (hE : E ≠ 0) {M : List Od} (hV : rV E M = V') (hM : rM E M = M') (hb : Below w.heap.size w w') : ChQ V' M' E w (.returned (.tuple #[.agg #[.slice none 0 0, .slice none 0 0], .int .i64 E])) w' := by
  unfold rV at hV
  unfold rM at hM
  rw [if_neg hE] at hV hM
  subst hV hM
  exact ⟨none, 0, none, 0, rfl, hb, ints_nil _, ods_nil _⟩
/-- What is still to be kept of the records from 'i' on. -/
def rcR (L : List Od) (k i : Nat) : List Od := (if i ≤ k then flt ((L.drop i).take (k - i)) ++ L.drop (k + 1) else L.drop i).filter (cfS (L.getD k zO))
theorem rcR_zero (L : List Od) (k : Nat) : rcR L k 0 = (flt (L.take k) ++ L.drop (k + 1)).filter (cfS (L.getD k zO)) := by
  unfold rcR; rw [if_pos (Nat.zero_le _), List.drop_zero, Nat.sub_zero]
theorem rcR_end {L : List Od} {k : Nat} (h : k < L.length) : rcR L k L.length = [] := by
  unfold rcR; rw [if_neg (by omega), List.drop_length]; rfl
theorem rcR_at {L : List Od} {k : Nat} : rcR L k k = rcR L k (k + 1) := by
  unfold rcR; rw [if_pos (Nat.le_refl _), if_neg (by omega), Nat.sub_self]; rfl
theorem rcR_no {L : List Od} {k i : Nat} (h : i < L.length) (hk : i ≠ k) (hs : cfS (L.getD k zO) (L.getD i zO) = false) : rcR L k i = rcR L k (i + 1) := by
  unfold rcR
  by_cases hik : i < k
  · rw [if_pos (by omega), if_pos (by omega), od_drop h, show k - i = (k - (i + 1)) + 1 by omega, List.take_succ_cons]
    cases hst : stB (L.getD i zO)
    · have e : flt (L.getD i zO :: (L.drop (i + 1)).take (k - (i + 1))) = L.getD i zO :: flt ((L.drop (i + 1)).take (k - (i + 1))) := by
        unfold flt; rw [List.filter_cons, if_pos (by rw [hst]; rfl)]
      rw [e, List.cons_append, List.filter_cons, if_neg (by rw [hs]; exact Bool.false_ne_true)]
    · have e : flt (L.getD i zO :: (L.drop (i + 1)).take (k - (i + 1))) = flt ((L.drop (i + 1)).take (k - (i + 1))) := by
        unfold flt; rw [List.filter_cons, if_neg (by rw [hst]; simp)]
      rw [e]
  · rw [if_neg (by omega), if_neg (by omega), od_drop h, List.filter_cons, if_neg (by rw [hs]; exact Bool.false_ne_true)]
theorem rcR_st {L : List Od} {k i : Nat} (h : i < L.length) (hk : i < k) (hst : stB (L.getD i zO) = true) : rcR L k i = rcR L k (i + 1) := by
  unfold rcR
  rw [if_pos (by omega), if_pos (by omega), od_drop h, show k - i = (k - (i + 1)) + 1 by omega, List.take_succ_cons]
  have e : flt (L.getD i zO :: (L.drop (i + 1)).take (k - (i + 1))) = flt ((L.drop (i + 1)).take (k - (i + 1))) := by
    unfold flt; rw [List.filter_cons, if_neg (by rw [hst]; simp)]
  rw [e]
theorem rcR_go {L : List Od} {k i : Nat} (h : i < L.length) (hk : i ≠ k) (hs : cfS (L.getD k zO) (L.getD i zO) = true) (hst : stB (L.getD i zO) = false ∨ k < i) : rcR L k i = L.getD i zO :: rcR L k (i + 1) := by
  unfold rcR
  by_cases hik : i < k
  · have hst' : stB (L.getD i zO) = false := by
      rcases hst with q | q
      · exact q
      · omega
    rw [if_pos (by omega), if_pos (by omega), od_drop h, show k - i = (k - (i + 1)) + 1 by omega, List.take_succ_cons]
    have e : flt (L.getD i zO :: (L.drop (i + 1)).take (k - (i + 1))) = L.getD i zO :: flt ((L.drop (i + 1)).take (k - (i + 1))) := by
      unfold flt; rw [List.filter_cons, if_pos (by rw [hst']; rfl)]
    rw [e, List.cons_append, List.filter_cons, if_pos hs]
  · rw [if_neg (by omega), if_neg (by omega), od_drop h, List.filter_cons, if_pos hs]
end Go.Proofs.Ytigpopemllamdaa
