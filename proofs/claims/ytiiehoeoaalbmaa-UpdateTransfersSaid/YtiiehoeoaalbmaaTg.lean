/- Hash trees: one list in another's place. -/
import Derived.Test.YtiiehoeoaalbmaaLb
namespace Go.Proofs.Ytiiehoeoaalbmaa
open Go.RowKit

theorem in_eq {x y : Int} (hx : InD x) (hy : InD y) (h : x % 2147483647 = y % 2147483647) : x = y := by
  unfold InD at hx hy
  omega
theorem nd_left {x y z : Int} (hx : InD x) (hy : InD y) (h : nd x z = nd y z) : x = y := in_eq hx hy ((Dg_replace [1] [z] x y).1 h)
theorem nd_right {x y z : Int} (hx : InD x) (hy : InD y) (h : nd z x = nd z y) : x = y := in_eq hx hy ((Dg_replace [1, z] [] x y).1 h)
theorem lf_inj {a b : List Int} : lf a = lf b ↔ Dg a = Dg b := by
  constructor
  · intro h
    exact in_eq (Dg_bd a) (Dg_bd b) ((Dg_replace [0] [] (Dg a) (Dg b)).1 h)
  · intro h
    unfold lf
    rw [h]
theorem stN_same {s t : St} (x : Int) (hi : s.i = t.i) : (stN s x).i = (stN t x).i := by rw [stN_i, stN_i, hi]
theorem stN_in {s : St} (x : Int) (h : InD s.h) : InD (stN s x).h := by
  unfold stN
  split
  · exact h
  · split
    · exact nd_in _ _
    · exact nd_in _ _
theorem stN_inj {s t : St} (x : Int) (hi : s.i = t.i) (hs : InD s.h) (ht : InD t.h) (h : (stN s x).h = (stN t x).h) : s.h = t.h := by
  unfold stN at h
  by_cases hx : x = -1
  · rw [if_pos hx, if_pos hx] at h; exact h
  · rw [if_neg hx, if_neg hx, hi] at h
    by_cases ho : t.i % 2 = 1
    · rw [if_pos ho, if_pos ho] at h; exact nd_right hs ht h
    · rw [if_neg ho, if_neg ho] at h; exact nd_left hs ht h
theorem fold_inj : ∀ (p : List Int) (s t : St), s.i = t.i → InD s.h → InD t.h → (p.foldl stN s).h = (p.foldl stN t).h → s.h = t.h
  | [], _, _, _, _, _, h => h
  | x :: p, s, t, hi, hs, ht, h => stN_inj x hi hs ht (fold_inj p (stN s x) (stN t x) (stN_same x hi) (stN_in x hs) (stN_in x ht) h)
theorem upR_set : ∀ (i : Nat) (row : List Int) (x : Int), i < row.length → ∃ y, upR (row.set i x) = (upR row).set (i / 2) y
  | 0, row, x, h => by
    match row, h with
    | [a], _ => exact ⟨x, by rw [show [a].set 0 x = [x] from rfl, upR_one, upR_one]; rfl⟩
    | a :: b :: r, _ => exact ⟨nd x b, by rw [show (a :: b :: r).set 0 x = x :: b :: r from rfl, upR_two, upR_two]; rfl⟩
  | 1, row, x, h => by
    match row, h with
    | a :: b :: r, _ => exact ⟨nd a x, by rw [show (a :: b :: r).set 1 x = a :: x :: r from rfl, upR_two, upR_two]; rfl⟩
  | i + 2, row, x, h => by
    match row, h with
    | a :: b :: r, h =>
      obtain ⟨y, hy⟩ := upR_set i r x (by simp at h; omega)
      refine ⟨y, ?_⟩
      rw [show (a :: b :: r).set (i + 2) x = a :: b :: r.set i x from rfl, upR_two, upR_two, hy, show (i + 2) / 2 = i / 2 + 1 by omega]
      rfl
theorem sib_ne (i : Nat) : sib i ≠ i := by unfold sib; split <;> omega
theorem oth_set (row : List Int) (i : Nat) (x : Int) : oth (row.set i x) i = oth row i := by
  unfold oth
  rw [List.length_set]
  by_cases h : sib i < row.length
  · rw [if_pos h, if_pos h]
    simp [List.getD_eq_getElem?_getD, (sib_ne i).symm]
  · rw [if_neg h, if_neg h]
theorem path_set : ∀ (n : Nat) (row : List Int) (i : Nat) (x : Int), row.length ≤ n → i < row.length → pthL (rowsT (row.set i x)) i = pthL (rowsT row) i
  | 0, row, i, x, h, hi => by omega
  | n + 1, row, i, x, h, hi => by
    by_cases g : 1 < row.length
    · rw [rowsT_more g, rowsT_more (by rw [List.length_set]; exact g), pthL, pthL, List.length_set, if_neg (by omega), if_neg (by omega), oth_set]
      obtain ⟨y, hy⟩ := upR_set i row x hi
      rw [hy, path_set n (upR row) (i / 2) y (by rw [upR_len]; omega) (by rw [upR_len]; omega)]
    · have e1 : (row.set i x).length = 1 := by rw [List.length_set]; omega
      have e2 : row.length = 1 := by omega
      rw [rowsT_one e1, rowsT_one e2]
      simp only [pthL]
      rw [if_pos e1, if_pos e2]
theorem set_in {row : List Int} (h : ∀ x ∈ row, InD x) (i : Nat) {x : Int} (hx : InD x) : ∀ y ∈ row.set i x, InD y := fun y hy => by
  rcases List.mem_or_eq_of_mem_set hy with h1 | h1
  · exact h y h1
  · rw [h1]; exact hx
theorem set_get {row : List Int} {i : Nat} (hi : i < row.length) (x : Int) : (row.set i x).getD i 0 = x := by simp [List.getD_eq_getElem?_getD, hi]
/-- A row with another number in one place: the root is the same exactly if the number is. -/
theorem root_set {row : List Int} (hr : ∀ x ∈ row, InD x) {i : Nat} (hi : i < row.length) {x : Int} (hx : InD x) : rtT (row.set i x) = rtT row ↔ x = row.getD i 0 := by
  constructor
  · intro h
    have h1 := climb_root row.length row (Nat.le_refl _) hr i hi ⟨i, row.getD i 0, []⟩ rfl rfl
    have h2 := climb_root row.length (row.set i x) (by rw [List.length_set]; exact Nat.le_refl _) (set_in hr i hx) i (by rw [List.length_set]; exact hi) ⟨i, x, []⟩ rfl (set_get hi x).symm
    rw [path_set row.length row i x (Nat.le_refl _) hi] at h2
    exact fold_inj (pthL (rowsT row) i) ⟨i, x, []⟩ ⟨i, row.getD i 0, []⟩ rfl hx (get_in hr hi) (h2.trans (h.trans h1.symm))
  · intro h
    rw [h]
    congr 1
    apply List.ext_getElem? 
    intro j
    rw [List.getElem?_set]
    by_cases e : i = j
    · subst e
      rw [if_pos rfl, if_pos hi]
      simp [List.getD_eq_getElem?_getD, hi]
    · rw [if_neg e]
theorem lvs_set (L : List (List Int)) (i : Nat) (o : List Int) : lvs (L.set i o) = (lvs L).set i (lf o) := by simp [lvs, List.map_set]
theorem rt_in {row : List Int} (h : ∀ x ∈ row, InD x) (hn : row ≠ []) : InD (rtT row) := by
  have h1 := climb_root row.length row (Nat.le_refl _) h 0 (List.length_pos_iff.2 hn) ⟨(0 : Nat), row.getD 0 0, []⟩ rfl rfl
  rw [← h1]
  have key : ∀ (p : List Int) (s : St), InD s.h → InD (p.foldl stN s).h := by
    intro p
    induction p with
    | nil => intro s h; exact h
    | cons x p ih => intro s h; exact ih _ (stN_in x h)
  exact key _ _ (get_in h (List.length_pos_iff.2 hn))
/-- What law CryptoOneList says of the two trees. -/
theorem one_facts {L : List (List Int)} {j : Nat} (hj : j < L.length) (h60 : L.length ≤ 60) (o : List Int) :
    clB j (pthL (rowsT (lvs L)) j) = false ∧ clH o j (pthL (rowsT (lvs L)) j) = rtL (L.set j o) ∧ (rtL (L.set j o) = rtL L ↔ Dg o = Dg (L.getD j [])) := by
  have hl : j < (lvs L).length := by rw [lvs_len]; exact hj
  have h1 := climb_of (L := L.set j o) (l := o) (i := j) (by rw [List.length_set]; exact hj) (by rw [List.length_set]; exact h60) (by rw [lvs_set, set_get hl])
  rw [lvs_set, path_set _ (lvs L) j (lf o) (Nat.le_refl _) hl] at h1
  refine ⟨h1.1, h1.2, ?_⟩
  unfold rtL
  rw [List.length_set, if_neg (by omega), if_neg (by omega), lvs_set, root_set (lvs_in L) hl (lf_in o), lvs_get hj, lf_inj]
/-- What law CryptoTrees says. -/
theorem tree_facts {L : List (List Int)} {k : Nat} (h60 : L.length ≤ 60) (h1 : 2 ^ k < L.length) (h2 : L.length ≤ 2 * 2 ^ k) : rtL L = Dg [1, rtL (L.take (2 ^ k)), rtL (L.drop (2 ^ k))] := by
  unfold rtL
  rw [if_neg (by omega), if_neg (by rw [List.length_take]; omega), if_neg (by rw [List.length_drop]; omega)]
  have h := rtT_split k (lvs (L.take (2 ^ k))) (lvs (L.drop (2 ^ k))) (by rw [lvs_len, List.length_take]; omega) (by rw [lvs_len, List.length_drop]; omega) (by rw [lvs_len, List.length_drop]; omega)
  have e : lvs (L.take (2 ^ k)) ++ lvs (L.drop (2 ^ k)) = lvs L := by unfold lvs; rw [← List.map_append, List.take_append_drop]
  rw [e] at h
  exact h
theorem leaf_facts {L : List (List Int)} (h : L.length = 1) : rtL L = Dg [0, Dg (L.getD 0 [])] := by
  obtain ⟨l, rfl⟩ := List.length_eq_one_iff.1 h
  rfl
end Go.Proofs.Ytiiehoeoaalbmaa
