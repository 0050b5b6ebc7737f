/- Shedding: a stable sort, plain facts: segments, swaps, the merge in place. -/
namespace Go.Proofs.Ytpablikcidlkaaa

/-- Who comes first: the greater key, and of equal ones the smaller index. -/
def bef (P : Nat → Int) (x y : Nat) : Prop := P y < P x ∨ P x = P y ∧ x < y
theorem bef_irr {P : Nat → Int} {x : Nat} : ¬ bef P x x := by unfold bef; omega
theorem bef_tr {P : Nat → Int} {x y z : Nat} (h : bef P x y) (k : bef P y z) : bef P x z := by unfold bef at *; omega
theorem bef_asym {P : Nat → Int} {x y : Nat} (h : bef P x y) : ¬ bef P y x := by unfold bef at *; omega
theorem bef_tot {P : Nat → Int} {x y : Nat} (h : x ≠ y) : bef P x y ∨ bef P y x := by unfold bef; omega
/-- Sorted. -/
def Srt (P : Nat → Int) (l : List Nat) : Prop := l.Pairwise (bef P)
theorem Srt.nodup {P : Nat → Int} {l : List Nat} (h : Srt P l) : l.Nodup := List.Pairwise.imp (fun h e => by rw [e] at h; exact bef_irr h) h
/-- Two sorted lists with the same elements are equal. -/
theorem srt_eq {P : Nat → Int} : ∀ {a b : List Nat}, Srt P a → Srt P b → a.Perm b → a = b
  | [], b, _, _, hp => by rw [List.nil_perm.1 hp]
  | x :: a, [], _, _, hp => by have := hp.length_eq; simp at this
  | x :: a, y :: b, ha, hb, hp => by
    have hxy : x = y := by
      apply Classical.byContradiction
      intro hne
      have h1 : x ∈ y :: b := hp.subset (by simp)
      have h2 : y ∈ x :: a := hp.symm.subset (by simp)
      have h3 : x ∈ b := by simpa [hne] using h1
      have h4 : y ∈ a := by simpa [Ne.symm hne] using h2
      exact bef_asym ((List.pairwise_cons.1 ha).1 y h4) ((List.pairwise_cons.1 hb).1 x h3)
    subst hxy
    rw [srt_eq (List.pairwise_cons.1 ha).2 (List.pairwise_cons.1 hb).2 (List.perm_cons x |>.1 hp)]
/-- Two elements change places. -/
def sw (l : List Nat) (i j : Nat) : List Nat := (l.set i (l.getD j 0)).set j (l.getD i 0)
theorem sw_len (l : List Nat) (i j : Nat) : (sw l i j).length = l.length := by simp [sw]
theorem getD_mid {a b : List Nat} {x k : Nat} (hk : k = a.length) : (a ++ x :: b).getD k 0 = x := by subst hk; simp
theorem getD_mid2 {a c b : List Nat} {x y k : Nat} (hk : k = a.length + 1 + c.length) : (a ++ x :: (c ++ y :: b)).getD k 0 = y := by
  have : a ++ x :: (c ++ y :: b) = (a ++ x :: c) ++ y :: b := by simp
  rw [this]
  exact getD_mid (by simp; omega)
theorem sw_mid {a c b : List Nat} {x y i j : Nat} (hi : i = a.length) (hj : j = a.length + 1 + c.length) : sw (a ++ x :: (c ++ y :: b)) i j = a ++ y :: (c ++ x :: b) := by
  unfold sw
  rw [getD_mid hi, getD_mid2 hj]
  subst hi hj
  rw [List.set_append_right _ _ (by omega)]
  simp only [Nat.sub_self, List.set_cons_zero]
  have e : a ++ y :: (c ++ y :: b) = (a ++ y :: c) ++ y :: b := by simp
  rw [e, List.set_append_right _ _ (by simp; omega)]
  have e2 : a.length + 1 + c.length - (a ++ y :: c).length = 0 := by simp; omega
  rw [e2, List.set_cons_zero]
  simp
theorem sw_mid' {a c b : List Nat} {x y i j : Nat} (hi : i = a.length) (hj : j = a.length + 1 + c.length) : sw (a ++ x :: (c ++ y :: b)) j i = a ++ y :: (c ++ x :: b) := by
  unfold sw
  rw [getD_mid hi, getD_mid2 hj]
  subst hi hj
  have e : a ++ x :: (c ++ y :: b) = (a ++ x :: c) ++ y :: b := by simp
  rw [e, List.set_append_right _ _ (by simp; omega)]
  have e2 : a.length + 1 + c.length - (a ++ x :: c).length = 0 := by simp; omega
  rw [e2, List.set_cons_zero]
  have e3 : a ++ x :: c ++ x :: b = a ++ x :: (c ++ x :: b) := by simp
  rw [e3, List.set_append_right _ _ (by omega), Nat.sub_self, List.set_cons_zero]
/-- Neighbours. -/
theorem sw_next {a b : List Nat} {x y i : Nat} (hi : i = a.length) : sw (a ++ x :: y :: b) (i + 1) i = a ++ y :: x :: b := by
  have := sw_mid' (a := a) (c := []) (b := b) (x := x) (y := y) (i := i) (j := i + 1) hi (by simp; omega)
  simpa using this
theorem sw_next' {a b : List Nat} {x y i : Nat} (hi : i = a.length) : sw (a ++ x :: y :: b) i (i + 1) = a ++ y :: x :: b := by
  have := sw_mid (a := a) (c := []) (b := b) (x := x) (y := y) (i := i) (j := i + 1) hi (by simp; omega)
  simpa using this
/-- A list cut at a place. -/
theorem cut_at {l : List Nat} {k : Nat} (h : k ≤ l.length) : ∃ a b, l = a ++ b ∧ a.length = k := ⟨l.take k, l.drop k, (List.take_append_drop k l).symm, by rw [List.length_take]; omega⟩
theorem cut_el {l : List Nat} {k : Nat} (h : k < l.length) : ∃ a x b, l = a ++ x :: b ∧ a.length = k ∧ x = l.getD k 0 := by
  refine ⟨l.take k, l[k], l.drop (k + 1), ?_, by rw [List.length_take]; omega, by simp [h]⟩
  rw [← List.drop_eq_getElem_cons h, List.take_append_drop]
/-- Blocks whose indices are smaller on the left. -/
def Lows (a b : List Nat) : Prop := ∀ x ∈ a, ∀ y ∈ b, x < y
theorem srt_join {P : Nat → Int} {a b : List Nat} (ha : Srt P a) (hb : Srt P b) (h : ∀ x ∈ a, ∀ y ∈ b, bef P x y) : Srt P (a ++ b) := List.pairwise_append.2 ⟨ha, hb, h⟩
/-- The last of the one before the first of the other: all are. -/
theorem join_of_ends {P : Nat → Int} {a b : List Nat} (ha : Srt P a) (hb : Srt P b) (h : ∀ a' x y b', a = a' ++ [x] → b = y :: b' → bef P x y) : ∀ x ∈ a, ∀ y ∈ b, bef P x y := by
  intro x hx y hy
  have hne : a ≠ [] := by intro e; rw [e] at hx; cases hx
  obtain ⟨a', z, rfl⟩ : ∃ a' z, a = a' ++ [z] := ⟨a.dropLast, a.getLast hne, (List.dropLast_concat_getLast hne).symm⟩
  obtain ⟨u, b', rfl⟩ : ∃ u b', b = u :: b' := by cases b with | nil => cases hy | cons u b' => exact ⟨u, b', rfl⟩
  have hzu := h a' z u b' rfl rfl
  have h1 : x = z ∨ bef P x z := by
    rcases List.mem_append.1 hx with h | h
    · exact .inr ((List.pairwise_append.1 ha).2.2 x h z (by simp))
    · exact .inl (by simpa using h)
  have h2 : y = u ∨ bef P u y := by
    rcases List.mem_cons.1 hy with h | h
    · exact .inl h
    · exact .inr ((List.pairwise_cons.1 hb).1 y h)
  rcases h1 with rfl | h1 <;> rcases h2 with rfl | h2
  · exact hzu
  · exact bef_tr hzu h2
  · exact bef_tr h1 hzu
  · exact bef_tr (bef_tr h1 hzu) h2
/-- What a merge of two sorted neighbours yields. -/
def Mrg (P : Nat → Int) (u v s : List Nat) : Prop := s.Perm (u ++ v) ∧ Srt P s
theorem mrg_nil_l {P : Nat → Int} {v : List Nat} (h : Srt P v) : Mrg P [] v v := ⟨by simp, h⟩
theorem mrg_nil_r {P : Nat → Int} {u : List Nat} (h : Srt P u) : Mrg P u [] u := ⟨by simp, h⟩
/-- The two halves are merged. -/
theorem mrg_halves {P : Nat → Int} {u1 u2 v1 v2 s1 s2 : List Nat} (h1 : Mrg P u1 v1 s1) (h2 : Mrg P u2 v2 s2) (hu : Srt P (u1 ++ u2)) (hv : Srt P (v1 ++ v2))
    (huv : ∀ a' x y b', u1 = a' ++ [x] → v2 = y :: b' → bef P x y) (hvu : ∀ a' x y b', v1 = a' ++ [x] → u2 = y :: b' → bef P x y) : Mrg P (u1 ++ u2) (v1 ++ v2) (s1 ++ s2) := by
  obtain ⟨a1, a2, a3⟩ := List.pairwise_append.1 hu
  obtain ⟨b1, b2, b3⟩ := List.pairwise_append.1 hv
  refine ⟨?_, srt_join h1.2 h2.2 ?_⟩
  · refine (List.Perm.append h1.1 h2.1).trans ?_
    rw [List.append_assoc, List.append_assoc]
    refine List.Perm.append_left _ ?_
    rw [← List.append_assoc, ← List.append_assoc]
    exact List.Perm.append_right _ List.perm_append_comm
  · have c1 := join_of_ends a1 b2 huv
    have c2 := join_of_ends b1 a2 hvu
    intro x hx y hy
    have hx := h1.1.subset hx
    have hy := h2.1.subset hy
    rcases List.mem_append.1 hx with hx | hx <;> rcases List.mem_append.1 hy with hy | hy
    · exact a3 x hx y hy
    · exact c1 x hx y hy
    · exact c2 x hx y hy
    · exact b3 x hx y hy
/-- One element put into a sorted list. -/
theorem mrg_one_l {P : Nat → Int} {x : Nat} {v1 v2 : List Nat} (hv : Srt P (v1 ++ v2)) (h1 : ∀ y ∈ v1, bef P y x) (h2 : ∀ y ∈ v2, bef P x y) : Mrg P [x] (v1 ++ v2) (v1 ++ x :: v2) := by
  refine ⟨?_, ?_⟩
  · exact List.perm_middle
  · obtain ⟨b1, b2, b3⟩ := List.pairwise_append.1 hv
    refine srt_join b1 (List.pairwise_cons.2 ⟨h2, b2⟩) ?_
    intro y hy z hz
    rcases List.mem_cons.1 hz with rfl | hz
    · exact h1 y hy
    · exact b3 y hy z hz
theorem mrg_one_r {P : Nat → Int} {x : Nat} {u1 u2 : List Nat} (hu : Srt P (u1 ++ u2)) (h1 : ∀ y ∈ u1, bef P y x) (h2 : ∀ y ∈ u2, bef P x y) : Mrg P (u1 ++ u2) [x] (u1 ++ x :: u2) := by
  have := mrg_one_l hu h1 h2
  exact ⟨this.1.trans List.perm_append_comm, this.2⟩
end Go.Proofs.Ytpablikcidlkaaa
