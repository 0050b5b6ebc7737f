/- Sets of tags: the examples. -/
import Derived.Test.YtoaleijfpocdjaaRm
namespace Go.Proofs.Ytoaleijfpocdjaa
open Go.RowKit

/-- The tags of the examples. -/
def hA : Int := tg0 5 1
def hB : Int := tgN hA ⟨1, 2⟩
theorem y_mt : mtV 5 1 = .agg #[.int .i64 1, .slice none 0 0, .int .i64 hA] := by unfold mtV; rw [show mtB 5 1 = true by decide +kernel]; rfl
theorem y_nr : nrE 1 hA [] 1 2 = 0 := by decide +kernel
theorem y_st : stB [hA] = true ∧ stB [hB] = true ∧ stB ([] : List Int) = true ∧ stB [2, 1] = false := by decide +kernel
theorem y_ne : hA ≠ hB := by decide +kernel
theorem mg_one (n : Int) (h : stB [n] = true) : mgE [] [n] = 0 ∧ mgL [] [n] = [n] := by
  have h0 : stB ([] : List Int) = true := by decide
  have e : mgE [] [n] = 0 := by unfold mgE; rw [h0, h, mg_nil]; rfl
  exact ⟨e, by unfold mgL; rw [e, mg_nil]; rfl⟩
theorem y_m : ∃ M, mgE [hB] [hA] = 0 ∧ mgL [hB] [hA] = M ∧ M.length = 2 ∧ hsB M hB = true := by
  have e : mg [hB] [hA] = if hA < hB then [hA, hB] else [hB, hA] := by
    by_cases h : hA < hB
    · rw [mg_lt [] [] h, if_pos h, mg_cons_nil, mg_nil]
    · have := y_ne
      rw [mg_gt [] [] (by omega), if_neg h, mg_nil]
  have hl : (mg [hB] [hA]).length = 2 := by rw [e]; split <;> rfl
  have h1 : mgE [hB] [hA] = 0 := by unfold mgE; rw [y_st.1, y_st.2.1, hl]; rfl
  refine ⟨_, h1, rfl, ?_, ?_⟩
  · unfold mgL; rw [h1]; exact hl
  · have h2 : mgL [hB] [hA] = mg [hB] [hA] := by unfold mgL; rw [h1]; rfl
    unfold hsB
    rw [h2, mg_st y_st.2.1 y_st.1 (by rw [hl]; decide), inB_iff.2 ((mem_mg _ _ _).2 (.inl (by simp)))]; rfl
theorem y_e : mgE [2, 1] [3] = 1 ∧ mgL [2, 1] [3] = [] := by
  have e : mgE [2, 1] [3] = 1 := by unfold mgE; rw [y_st.2.2.2]; rfl
  exact ⟨e, by unfold mgL; rw [e]; rfl⟩
theorem y_ck : ckR 5 [] 1 hA [] 2 0 0 0 0 = 0 ∧ ckR 5 [] 1 hB [⟨1, 2⟩] 2 0 0 0 0 = 0 ∧ ckR 5 [hB] 1 hA [] 2 0 0 0 0 = 0 ∧ ckR 5 [hB] 1 hB [⟨1, 2⟩] 2 0 0 0 0 = 21 ∧ ckR 5 [hA] 1 hA [] 2 0 0 0 0 = 21 ∧ ckR 5 [hA] 1 hB [⟨1, 2⟩] 2 0 0 0 0 = 21 ∧ ckR 6 [hA] 1 hB [⟨1, 2⟩] 2 0 0 0 0 = 15 ∧ ckR 5 [] 1 hB [⟨1, 2⟩] 3 0 0 0 0 = 18 ∧ hsB [hB] hA = false := by decide +kernel
theorem y_bd : (-9223372036854775808 ≤ hA ∧ hA ≤ 9223372036854775807) ∧ (-9223372036854775808 ≤ hB ∧ hB ≤ 9223372036854775807) := by
  have h1 := Dg_bd [5, 1, 1]
  have h2 := Dg_bd [hA, 2, 1, 2]
  have e1 : hA = Dg [5, 1, 1] := rfl
  have e2 : hB = Dg [hA, 2, 1, 2] := rfl
  omega
theorem row_tg {w : World} {b n : Nat} {u : Value} {L0 L : List Int} (h : w.ownsRow b 3 1 u L0.length (L0.map (Value.int .i64))) (e : L0 = L) (hn : L.length = n) : ∃ a c, u = .slice a n c ∧ TgAt w (.slice a n c) L := by
  subst e hn
  obtain ⟨a, c, rfl⟩ := row_slice h
  exact ⟨a, c, rfl, tg_of_row h⟩
end Go.Proofs.Ytoaleijfpocdjaa
