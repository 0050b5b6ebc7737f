/- Beliefs: what a change makes is well-formed (plain facts). -/
import Derived.Test.YtigpopemllamdaaCd
namespace Go.Proofs.Ytigpopemllamdaa

/-- One order flies ahead of another. -/
def bef (x y : Od) : Prop := x.a < y.a ∧ x.b ≤ y.b
theorem wk_iff : ∀ (L : List Od) (l : Od), wk l L = true ↔ (∀ x ∈ L, okR x = true) ∧ (flt L).Pairwise bef ∧ ∀ x ∈ flt L, bef l x := by
  intro L
  induction L with
  | nil => intro l; simp [wk, flt]
  | cons y L ih =>
    intro l
    have e : flt (y :: L) = if (!stB y) = true then y :: flt L else flt L := List.filter_cons
    rw [e]
    unfold wk
    rw [Bool.and_eq_true]
    by_cases hs : stB y = true
    · rw [if_pos hs, if_neg (by rw [hs]; simp), ih]
      constructor
      · rintro ⟨h0, h1, h2, h3⟩
        refine ⟨fun x hx => ?_, h2, h3⟩
        rcases List.mem_cons.1 hx with rfl | hx
        · exact h0
        · exact h1 x hx
      · rintro ⟨h1, h2, h3⟩
        exact ⟨h1 y (by simp), fun x hx => h1 x (by simp [hx]), h2, h3⟩
    · have hs' : stB y = false := by simpa using hs
      rw [if_neg hs, if_pos (by rw [hs']; rfl), Bool.and_eq_true, Bool.and_eq_true, ih]
      simp only [List.pairwise_cons, Bool.not_eq_true', decide_eq_false_iff_not]
      constructor
      · rintro ⟨h0, ⟨h1, h2⟩, h3, h4, h5⟩
        refine ⟨fun x hx => ?_, ⟨h5, h4⟩, fun x hx => ?_⟩
        · rcases List.mem_cons.1 hx with rfl | hx
          · exact h0
          · exact h3 x hx
        · rcases List.mem_cons.1 hx with rfl | hx
          · exact ⟨by omega, by omega⟩
          · have := h5 x hx
            unfold bef at this ⊢
            omega
      · rintro ⟨h1, ⟨h5, h4⟩, h6⟩
        have h7 := h6 y (by simp)
        unfold bef at h7
        exact ⟨h1 y (by simp), ⟨by omega, by omega⟩, fun x hx => h1 x (by simp [hx]), h4, h5⟩
theorem isW_iff (V : List Int) (L : List Od) : isW V L = true ↔ (flt L).length ≤ 8 ∧ L.length ≤ 20 ∧ (∃ x ∈ L, stB x = true) ∧ (∀ x ∈ L, okR x = true) ∧ (flt L).Pairwise bef ∧ (∀ x ∈ flt L, bef l0 x) ∧ V = rvl L := by
  unfold isW
  rw [Bool.and_eq_true, Bool.and_eq_true, Bool.and_eq_true, Bool.and_eq_true, wk_iff, decide_eq_true_eq, decide_eq_true_eq, beq_iff_eq, List.any_eq_true]
  constructor
  · rintro ⟨⟨⟨⟨h1, h2⟩, h3⟩, h4, h5, h6⟩, h7⟩; exact ⟨h1, h2, h3, h4, h5, h6, h7⟩
  · rintro ⟨h1, h2, h3, h4, h5, h6, h7⟩; exact ⟨⟨⟨⟨h1, h2⟩, h3⟩, h4, h5, h6⟩, h7⟩
theorem flt_mem {L : List Od} {x : Od} : x ∈ flt L ↔ x ∈ L ∧ stB x = false := by unfold flt; rw [List.mem_filter]; simp
theorem flt_app (L M : List Od) : flt (L ++ M) = flt L ++ flt M := List.filter_append ..
theorem okR_parts {x : Od} : okR x = true ↔ (-1 ≤ x.a ∧ x.a ≤ 1000000000) ∧ (0 ≤ x.b ∧ x.b ≤ 1000000000) ∧ (0 ≤ x.d ∧ x.d ≤ 15) ∧ -1 ≤ x.c := by
  unfold okR
  simp only [Bool.and_eq_true, inr_iff, Bool.not_eq_true', decide_eq_false_iff_not]
  constructor
  · rintro ⟨⟨⟨h1, h2⟩, h3⟩, h4⟩; exact ⟨h1, h2, h3, by omega⟩
  · rintro ⟨h1, h2, h3, h4⟩; exact ⟨⟨⟨h1, h2⟩, h3⟩, by omega⟩
theorem stB_iff {x : Od} : stB x = true ↔ x.c = -1 := by unfold stB; exact decide_eq_true_iff
theorem rV_ok {M : List Od} (h : ∀ o ∈ M, okR o = true) : rV 0 M = rvl M := rV_W rfl fun o ho => okR_d (h o ho)
/-- What sending asks. -/
theorem sdE_ok {L : List Od} {o : Od} (h : sdE L o = 0) : isO o = true ∧ (∀ x ∈ L, x.a < o.a ∧ x.b ≤ o.b) ∧ (flt L).length ≠ 8 ∧ L.length ≠ 20 := by
  unfold sdE at h
  by_cases h1 : (!isO o || L.any fun x => decide (o.a ≤ x.a)) = true
  · rw [if_pos h1] at h; cases h
  · rw [if_neg h1] at h
    by_cases h2 : (L.any fun x => decide (o.b < x.b)) = true
    · rw [if_pos h2] at h; cases h
    · rw [if_neg h2] at h
      by_cases h3 : (decide ((flt L).length = 8) || decide (L.length = 20)) = true
      · rw [if_pos h3] at h; cases h
      · simp only [Bool.or_eq_true, decide_eq_true_eq, not_or] at h3
        simp only [Bool.or_eq_true, not_or, Bool.not_eq_true', List.any_eq_true, decide_eq_true_eq, not_exists, not_and] at h1 h2
        refine ⟨by simpa using h1.1, fun x hx => ⟨?_, ?_⟩, h3.1, h3.2⟩
        · have := h1.2 x hx; omega
        · have := h2 x hx; omega
theorem isO_parts {o : Od} (h : isO o = true) : (0 ≤ o.a ∧ o.a ≤ 1000000000) ∧ (0 ≤ o.b ∧ o.b ≤ 1000000000) ∧ (0 ≤ o.c ∧ o.c ≤ 1000000000) ∧ (0 ≤ o.d ∧ o.d ≤ 15) := by
  unfold isO at h
  simp only [Bool.and_eq_true, inr_iff] at h
  exact ⟨h.1.1.1, h.1.1.2, h.1.2, h.2⟩
theorem sent_ok {V : List Int} {L : List Od} {o : Od} (hw : isW V L = true) (h : sdE L o = 0) : isW (rV 0 (L ++ [o])) (rM 0 (L ++ [o])) = true := by
  obtain ⟨h1, h2, h3, h4⟩ := sdE_ok h
  obtain ⟨p1, p2, p3, p4⟩ := isO_parts h1
  obtain ⟨w1, w2, w3, w4, w5, w6, w7⟩ := (isW_iff V L).1 hw
  have hs : stB o = false := by
    cases hs : stB o with
    | false => rfl
    | true => have := stB_iff.1 hs; omega
  have hf : flt (L ++ [o]) = flt L ++ [o] := by
    rw [flt_app]
    congr 1
    unfold flt
    rw [List.filter_cons, if_pos (by rw [hs]; rfl), List.filter_nil]
  have hk : ∀ x ∈ L ++ [o], okR x = true := fun x hx => by
    rcases List.mem_append.1 hx with hx | hx
    · exact w4 x hx
    · obtain rfl : x = o := by simpa using hx
      exact okR_parts.2 ⟨by omega, p2, p4, by omega⟩
  rw [rV_ok hk, rM_W _ rfl, isW_iff]
  refine ⟨by rw [hf, List.length_append]; simp; omega, by rw [List.length_append]; simp; omega, ?_, hk, ?_, ?_, rfl⟩
  · obtain ⟨x, hx, e⟩ := w3
    exact ⟨x, by simp [hx], e⟩
  · rw [hf, List.pairwise_append]
    refine ⟨w5, by simp, fun x hx y hy => ?_⟩
    obtain rfl : y = o := by simpa using hy
    exact h2 x (flt_mem.1 hx).1
  · rw [hf]
    intro x hx
    rcases List.mem_append.1 hx with hx | hx
    · exact w6 x hx
    · obtain rfl : x = o := by simpa using hx
      exact ⟨show (-1 : Int) < x.a by omega, show (0 : Int) ≤ x.b by omega⟩
theorem flt_sub {L M : List Od} (h : M.Sublist L) : (flt M).Sublist (flt L) := List.Sublist.filter _ h
theorem flt_idem (L : List Od) : flt (flt L) = flt L := by unfold flt; rw [List.filter_filter]; congr 1; funext x; simp
theorem flt_all_st {o : Od} (h : stB o = true) (M : List Od) : flt (M ++ [o]) = flt M := by
  rw [flt_app]
  have : flt [o] = [] := by unfold flt; rw [List.filter_cons, if_neg (by rw [h]; simp), List.filter_nil]
  rw [this, List.append_nil]
/-- Records that are made of a belief's, and one that is settled. -/
theorem made_ok {V : List Int} {L M N : List Od} (hw : isW V L = true) (hM : ∀ x ∈ M, okR x = true) (hf : flt M = flt N) (hN : N.Sublist L) (hl : M.length ≤ 20) (hs : ∃ x ∈ M, stB x = true) : isW (rV 0 M) (rM 0 M) = true := by
  obtain ⟨w1, w2, w3, w4, w5, w6, w7⟩ := (isW_iff V L).1 hw
  have hsub := flt_sub hN
  rw [rV_ok hM, rM_W _ rfl, isW_iff]
  refine ⟨by rw [hf]; exact Nat.le_trans hsub.length_le w1, hl, hs, hM, by rw [hf]; exact w5.sublist hsub, fun x hx => ?_, rfl⟩
  rw [hf] at hx
  exact w6 x (hsub.mem hx)
theorem cf_some {q : Int} {L : List Od} (h : cfE q L = 0) : ∃ i, fsI (cfP q) L 0 = some i ∧ i < L.length ∧ cfP q (L.getD i zO) = true ∧ cfM q L = cfO L i := by
  unfold cfE at h
  unfold cfM
  cases hf : fsI (cfP q) L 0 with
  | none => rw [hf] at h; cases h
  | some i =>
    obtain ⟨-, h2, h3, -⟩ := fsI_some.1 hf
    exact ⟨i, rfl, by simpa using h2, by simpa using h3, rfl⟩
theorem getD_mem {L : List Od} {i : Nat} (h : i < L.length) : L.getD i zO ∈ L := List.mem_of_getElem? (od_get h)
theorem conf_ok {V : List Int} {L : List Od} {q : Int} (hw : isW V L = true) (h : cfE q L = 0) : isW (rV 0 (cfM q L)) (rM 0 (cfM q L)) = true := by
  obtain ⟨i, -, hi, hp, hm⟩ := cf_some h
  rw [hm]
  obtain ⟨w1, w2, w3, w4, w5, w6, w7⟩ := (isW_iff V L).1 hw
  have ho := okR_parts.1 (w4 _ (getD_mem hi))
  have hst : stB { L.getD i zO with c := -1 } = true := stB_iff.2 rfl
  have hsub : ((flt (L.take i) ++ L.drop (i + 1)).filter (cfS (L.getD i zO))).Sublist L := by
    refine (List.filter_sublist).trans ?_
    have h1 : (flt (L.take i)).Sublist (L.take i) := List.filter_sublist
    have h2 : (L.drop (i + 1)).Sublist (L.drop i) := List.drop_sublist_drop_left L (by omega)
    have := h1.append h2
    rwa [List.take_append_drop] at this
  refine made_ok (N := (flt (L.take i) ++ L.drop (i + 1)).filter (cfS (L.getD i zO))) hw (fun x hx => ?_) (by unfold cfO; exact flt_all_st hst _) hsub ?_ ⟨_, by unfold cfO; simp, hst⟩
  · unfold cfO at hx
    rcases List.mem_append.1 hx with hx | hx
    · exact w4 x (hsub.mem hx)
    · obtain rfl : x = { L.getD i zO with c := -1 } := by simpa using hx
      exact okR_parts.2 ⟨ho.1, ho.2.1, ho.2.2.1, by simp⟩
  · unfold cfO
    rw [List.length_append]
    have h1 : ((flt (L.take i) ++ L.drop (i + 1)).filter (cfS (L.getD i zO))).length ≤ (flt (L.take i) ++ L.drop (i + 1)).length := List.length_filter_le _ _
    have h2 : (flt (L.take i)).length ≤ (L.take i).length := List.length_filter_le _ _
    rw [List.length_append, List.length_drop] at h1
    rw [List.length_take] at h2
    simp only [List.length_singleton]
    omega
theorem rpB_ok (t : Int) : ∀ (L : List Od) (b : Int), 0 ≤ b ∧ b ≤ 1000000000 → (∀ x ∈ L, okR x = true) → 0 ≤ L.foldl (fun b x => if rpT t x = true then b else max b x.b) b ∧ L.foldl (fun b x => if rpT t x = true then b else max b x.b) b ≤ 1000000000 := by
  intro L
  induction L with
  | nil => intro b hb _; exact hb
  | cons x L ih =>
    intro b hb h
    rw [List.foldl_cons]
    refine ih _ ?_ fun y hy => h y (by simp [hy])
    have := (okR_parts.1 (h x (by simp))).2.1
    by_cases hr : rpT t x = true
    · rw [if_pos hr]; exact hb
    · rw [if_neg hr]; omega
theorem rpE_ok {V : List Int} {L : List Od} {v t : Int} (h : rpE V L v t = 0) : (-1 ≤ t ∧ t ≤ 1000000000) ∧ v ∈ V ∧ ∀ x ∈ L, stB x = true → x.a ≤ t := by
  unfold rpE at h
  by_cases h1 : inr t (-1) 1000000000 = false
  · rw [if_pos h1] at h; cases h
  · rw [if_neg h1] at h
    by_cases h2 : (!V.contains v || (L.filter stB).any (rpT t)) = true
    · rw [if_pos h2] at h; cases h
    · simp only [Bool.or_eq_true, not_or, Bool.not_eq_true', Bool.not_eq_false] at h1 h2
      refine ⟨inr_iff.1 h1, by simpa using h2.1, fun x hx hs => ?_⟩
      have h3 := h2.2
      rw [List.any_eq_true] at h3
      by_cases hx' : x.a ≤ t
      · exact hx'
      · exact absurd ⟨x, List.mem_filter.2 ⟨hx, hs⟩, by unfold rpT; exact decide_eq_true (by omega)⟩ h3
theorem rep_ok {V : List Int} {L : List Od} {v t : Int} (hw : isW V L = true) (h : rpE V L v t = 0) : isW (rV 0 (rpM L v t)) (rM 0 (rpM L v t)) = true := by
  obtain ⟨h1, h2, h3⟩ := rpE_ok h
  obtain ⟨w1, w2, w3, w4, w5, w6, w7⟩ := (isW_iff V L).1 hw
  rw [w7] at h2
  have hv := ((rvl_prop L).2 v).1 h2
  have hb := rpB_ok t L 0 (by omega) w4
  have hst : stB ⟨t, rpB t L, -1, v⟩ = true := stB_iff.2 rfl
  have hsub : ((flt L).filter (rpT t)).Sublist L := (List.filter_sublist).trans List.filter_sublist
  refine made_ok (N := (flt L).filter (rpT t)) hw (fun x hx => ?_) ?_ hsub ?_ ⟨_, by unfold rpM; simp, hst⟩
  · unfold rpM at hx
    rcases List.mem_cons.1 hx with rfl | hx
    · exact okR_parts.2 ⟨h1, hb, ⟨hv.1.1, show v ≤ 15 by omega⟩, show (-1 : Int) ≤ -1 by omega⟩
    · exact w4 x (hsub.mem hx)
  · unfold rpM
    have e : flt (⟨t, rpB t L, -1, v⟩ :: (flt L).filter (rpT t)) = flt ((flt L).filter (rpT t)) := by
      conv => lhs; unfold flt
      rw [List.filter_cons, if_neg (by rw [hst]; simp)]
      rfl
    exact e
  · unfold rpM
    rw [List.length_cons]
    have : ((flt L).filter (rpT t)).length ≤ (flt L).length := List.length_filter_le _ _
    omega
end Go.Proofs.Ytigpopemllamdaa
