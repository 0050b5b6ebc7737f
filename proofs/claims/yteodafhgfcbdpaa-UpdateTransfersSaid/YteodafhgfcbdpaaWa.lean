import Derived.Test.YteodafhgfcbdpaaUw
namespace Go.Proofs.Yteodafhgfcbdpaa
open Go.RowKit

theorem climb_of64 {L : List (List Int)} {l : List Int} {i : Nat} (hi : i < L.length) (h : L.length ≤ 64) (hl : (lvs L).getD i 0 = lf l) : clB i (pthL (rowsT (lvs L)) i) = false ∧ clH l i (pthL (rowsT (lvs L)) i) = rtL L := by
  have hb : clB i (pthL (rowsT (lvs L)) i) = false := by
    unfold clB
    rw [Bool.or_eq_false_iff, Bool.or_eq_false_iff, decide_eq_false_iff_not, decide_eq_false_iff_not]
    refine ⟨by omega, ?_, ?_⟩
    · rw [path_len (lvs L).length (lvs L) i (Nat.le_refl _)]
      have := hlv_le (lvs L).length (lvs L).length (by rw [lvs_len]; omega)
      omega
    · rw [List.any_eq_false]
      intro x hx
      have := path_in_range _ (lvs L) (Nat.le_refl _) (lvs_in L) i x hx
      unfold noEl
      simp
      omega
  refine ⟨hb, ?_⟩
  unfold clH rtL
  rw [hb, if_neg (by decide), if_neg (by omega), stK_all]
  exact climb_root _ (lvs L) (Nat.le_refl _) (lvs_in L) i (by rw [lvs_len]; exact hi) _ rfl hl.symm
theorem fmOK_mk {a : Bool} {fs : List Bool} {x : Int} {q : List Int} (h1 : chkB a x = true) (h2 : fmOK fs q = true) : fmOK (a :: fs) (x :: q) = true := by
  unfold fmOK at h2 ⊢
  rw [Bool.and_eq_true, decide_eq_true_eq, List.all_eq_true] at h2 ⊢
  refine ⟨by simpa using h2.1, fun j hj => ?_⟩
  cases j with
  | zero => simpa using h1
  | succ j =>
    have := h2.2 j (List.mem_range.2 (by have := List.mem_range.1 hj; simpa using this))
    simpa using this
/-- A tree's own path has the form. -/
theorem path_form : ∀ (f : Nat) (row : List Int) (i : Nat), row.length ≤ f → (∀ x ∈ row, InD x) → i < row.length → fmOK (fmF f i row.length) (pthL (rowsT row) i) = true
  | 0, row, i, h, _, hi => by omega
  | f + 1, row, i, h, hr, hi => by
    by_cases g : 1 < row.length
    · rw [fmF_step g h, rowsT_more g, pthL, if_neg (by omega)]
      refine fmOK_mk ?_ ?_
      · unfold oth sib
        by_cases ho : i % 2 = 1
        · rw [if_pos ho, if_pos (by omega)]
          have hx := get_in hr (show i - 1 < row.length by omega)
          have : (decide (i = row.length - 1) && decide (row.length % 2 = 1)) = false := by
            cases q1 : (decide (i = row.length - 1) && decide (row.length % 2 = 1))
            · rfl
            · rw [Bool.and_eq_true, decide_eq_true_eq, decide_eq_true_eq] at q1
              omega
          rw [this]
          unfold chkB
          rw [decide_eq_false (by have := hx.1; omega), inB_iff.2 ⟨hx.1, by have := hx.2; omega⟩]
          rfl
        · rw [if_neg ho]
          by_cases hl : i + 1 < row.length
          · rw [if_pos hl]
            have hx := get_in hr hl
            rw [decide_eq_false (show ¬ i = row.length - 1 by omega), Bool.false_and]
            unfold chkB
            rw [decide_eq_false (by have := hx.1; omega), inB_iff.2 ⟨hx.1, by have := hx.2; omega⟩]
            rfl
          · rw [if_neg hl, decide_eq_true (show i = row.length - 1 by omega), decide_eq_true (show row.length % 2 = 1 by omega)]
            rfl
      · have hl := upR_len row
        rw [Nat.add_sub_cancel, ← hl]
        exact path_form f (upR row) (i / 2) (by omega) (upR_in _ row (Nat.le_refl _) hr) (by omega)
    · have h1 : row.length = 1 := by omega
      rw [fmF_end (by omega), rowsT_one h1, pthL, if_pos h1]
      rfl
theorem daB_iff {l : List Int} : daB l = true ↔ ∀ x ∈ l, inB (-1000000000) 1000000000 x = true := by
  unfold daB wiB
  rw [List.all_eq_true]
/-- What a split of data is: n pieces of size s. -/
structure SpW (s n : Nat) (D : List Int) (M : Mf) : Prop where
  s1 : 1 ≤ s
  s2 : s ≤ 32
  hn : chN D.length s = n
  n1 : 1 ≤ n
  n2 : n ≤ 64
  hd : daB D = true
  hm : mfB M = true
  hc : M.c = n
  hs : M.s = s
  hr : M.r = rtL (chL s D)
theorem sp_of {key ver s : Int} {D : List Int} (h : spE key ver s D = 0) : SpW s.toNat (chN D.length s.toNat) D (spM key ver s D 0) := by
  obtain ⟨h1, h2, h3, h4, h5, h6⟩ := spE_ok h
  have h7 := inB_iff.1 h3
  exact ⟨by omega, by omega, rfl, chN_pos (by omega) (len_pos h4), h6, h5, spM_ok h, by rw [spM_eq], by rw [spM_eq]; show s = ((s.toNat : Nat) : Int); omega, by rw [spM_eq]⟩
theorem chk_pos {s n k : Nat} {D : List Int} {M : Mf} (h : SpW s n D M) (hk : k < n) : 1 ≤ (chk s D k).length ∧ (chk s D k).length ≤ s ∧ (k + 1 < n → (chk s D k).length = s) := by
  have h1 := (chN_lt (n := D.length) (k := k) h.s1).1 (by rw [h.hn]; exact hk)
  rw [chk_len]
  unfold chZ
  refine ⟨by have := h.s1; omega, by omega, fun hk1 => ?_⟩
  have h2 := (chN_lt (n := D.length) (k := k + 1) h.s1).1 (by rw [h.hn]; exact hk1)
  rw [Nat.add_mul, Nat.one_mul] at h2
  omega
theorem chk_ne {s n k : Nat} {D : List Int} {M : Mf} (h : SpW s n D M) (hk : k < n) : chk s D k ≠ [] := fun e => by
  have := (chk_pos h hk).1
  rw [e] at this
  simp at this
theorem ft_chk {s n k : Nat} {D : List Int} {M : Mf} (h : SpW s n D M) (hk : k < n) : ftB M k (chk s D k) = true := by
  obtain ⟨a, b, c⟩ := chk_pos h hk
  unfold ftB
  rw [inB_iff.2 ⟨by omega, by rw [h.hc]; omega⟩, Bool.true_and, Bool.and_eq_true]
  refine ⟨?_, ?_⟩
  · rw [h.hs, h.hc]
    by_cases e : (k : Int) = (n : Int) - 1
    · rw [if_pos e]; exact inB_iff.2 ⟨by omega, by omega⟩
    · rw [if_neg e]
      have := c (by omega)
      exact inB_iff.2 ⟨by omega, by omega⟩
  · rw [daB_iff]
    intro x hx
    exact daB_iff.1 h.hd x (List.mem_of_mem_drop (List.mem_of_mem_take hx))
/-- The pieces that have come. -/
def LfF (s n : Nat) (D : List Int) (f : Nat → Bool) : List (List Int) := (List.range n).map fun j => if f j = true then chk s D j else []
theorem lf_len (s n : Nat) (D : List Int) (f : Nat → Bool) : (LfF s n D f).length = n := by simp [LfF]
theorem lf_get {s n k : Nat} {D : List Int} {f : Nat → Bool} (hk : k < n) : (LfF s n D f).getD k [] = if f k = true then chk s D k else [] := by
  simp [LfF, hk]
theorem lf_emp {s n k : Nat} {D : List Int} {M : Mf} {f : Nat → Bool} (h : SpW s n D M) (hk : k < n) : ((LfF s n D f).getD k []).isEmpty = !f k := by
  rw [lf_get hk]
  cases f k
  · rfl
  · rw [if_pos rfl]
    cases hc : chk s D k with
    | nil => exact absurd hc (chk_ne h hk)
    | cons a l => rfl
theorem lf_none (s n : Nat) (D : List Int) : LfF s n D (fun _ => false) = List.replicate n [] := by
  apply List.ext_getElem
  · simp [LfF]
  · intro i h1 h2
    simp [LfF]
theorem lf_small {s n : Nat} {D x : List Int} {M : Mf} {f : Nat → Bool} (h : SpW s n D M) (hx : x ∈ LfF s n D f) : x.length ≤ 1000 := by
  obtain ⟨j, hj, rfl⟩ := List.mem_map.1 hx
  have := chk_pos h (List.mem_range.1 hj)
  have := h.s2
  split <;> simp <;> omega
theorem sl_lf {s n : Nat} {D : List Int} {M : Mf} {f : Nat → Bool} (h : SpW s n D M) : slB M (LfF s n D f) = true := by
  unfold slB
  rw [h.hm, lf_len, decide_eq_true h.hc.symm, Bool.true_and, Bool.true_and, List.all_eq_true]
  intro j hj
  have hj := List.mem_range.1 hj
  unfold slP
  rw [lf_get hj]
  cases f j
  · rfl
  · rw [if_pos rfl, ft_chk h hj, Bool.or_true]
theorem ad_lf {s n k : Nat} {D : List Int} {M : Mf} {f : Nat → Bool} (h : SpW s n D M) (hk : k < n) : adE M (LfF s n D f) k (chk s D k) (pthL (rowsT (lvs (chL s D))) k) = 0 := by
  have hL : (chL s D).length = n := by rw [chL_len, h.hn]
  have hg : (chL s D).getD k [] = chk s D k := chL_get (by rw [h.hn]; exact hk)
  have hc := climb_of64 (L := chL s D) (l := chk s D k) (i := k) (by omega) (by have := h.n2; omega) (by rw [lvs_get (by omega), hg])
  have hf := path_form n (lvs (chL s D)) k (by rw [lvs_len]; omega) (lvs_in _) (by rw [lvs_len]; omega)
  rw [lvs_len, hL] at hf
  unfold adE
  rw [sl_lf h, ft_chk h hk, if_neg (by decide), if_neg (by decide), if_neg]
  unfold prB
  rw [Int.toNat_natCast, lf_len, hc.2, h.hr, decide_eq_true rfl, Bool.and_true]
  unfold fmL
  rw [hf]
  decide
theorem lf_set {s n k : Nat} {D : List Int} {f : Nat → Bool} (_ : k < n) : (LfF s n D f).set k (chk s D k) = LfF s n D (fun j => j == k || f j) := by
  apply List.ext_getElem
  · simp [LfF]
  · intro i h1 h2
    rw [List.getElem_set]
    by_cases e : k = i
    · subst e; simp [LfF]
    · have : ¬ i = k := by omega
      simp [LfF, e, this]
theorem lf_same {s n : Nat} {D : List Int} {f g : Nat → Bool} (h : ∀ j, j < n → f j = g j) : LfF s n D f = LfF s n D g := by
  unfold LfF
  apply List.map_congr_left
  intro j hj
  rw [h j (List.mem_range.1 hj)]
theorem al_lf {s n k : Nat} {D : List Int} {M : Mf} {f : Nat → Bool} (h : SpW s n D M) (hk : k < n) : adL M (LfF s n D f) k (chk s D k) (pthL (rowsT (lvs (chL s D))) k) = LfF s n D (fun j => j == k || f j) := by
  unfold adL
  rw [if_pos (ad_lf h hk), Int.toNat_natCast, lf_set hk]
theorem ms_lf {s n : Nat} {D : List Int} {M : Mf} {f : Nat → Bool} (h : SpW s n D M) : msB M (LfF s n D f) = msN (LfF s n D f) n := by
  unfold msB msL
  rw [if_pos (sl_lf h), lf_len]
theorem msN_pre (L : List (List Int)) (k : Nat) : ∀ d, ∃ t, msN L (k + d) = msN L k ++ t
  | 0 => ⟨[], by simp⟩
  | d + 1 => by
    obtain ⟨t, ht⟩ := msN_pre L k d
    rw [← Nat.add_assoc, msN_succ, ht]
    exact ⟨t ++ _, by rw [List.append_assoc]⟩
theorem ms_at {s n k : Nat} {D : List Int} {M : Mf} {f : Nat → Bool} (h : SpW s n D M) (hk : k < n) :
    (f k = true → msN (LfF s n D f) (k + 1) = msN (LfF s n D f) k) ∧ (f k = false → (msN (LfF s n D f) (k + 1)).length = (msN (LfF s n D f) k).length + 1 ∧ (msN (LfF s n D f) k).length < (msN (LfF s n D f) n).length ∧ (msN (LfF s n D f) n)[(msN (LfF s n D f) k).length]? = some (k : Int)) := by
  have e := msN_succ (LfF s n D f) k
  rw [lf_emp h hk] at e
  refine ⟨fun hf => ?_, fun hf => ?_⟩
  · rw [hf] at e; simpa using e
  · rw [hf] at e
    have e2 : msN (LfF s n D f) (k + 1) = msN (LfF s n D f) k ++ [(k : Int)] := by simpa using e
    obtain ⟨t, ht⟩ := msN_pre (LfF s n D f) (k + 1) (n - (k + 1))
    rw [show k + 1 + (n - (k + 1)) = n by omega, e2] at ht
    refine ⟨by rw [e2]; simp, by rw [ht]; simp, ?_⟩
    rw [ht, List.append_assoc]
    simp
theorem chk_flat {s n : Nat} {D : List Int} {M : Mf} (h : SpW s n D M) : ∀ k, k ≤ n → ((List.range k).map (chk s D)).flatten = D.take (k * s)
  | 0, _ => by simp
  | k + 1, hk => by
    rw [List.range_succ, List.map_append, List.flatten_append, chk_flat h k (by omega)]
    simp only [List.map_cons, List.map_nil, List.flatten_cons, List.flatten_nil, List.append_nil]
    unfold chk
    rw [Nat.add_mul, Nat.one_mul, List.take_add]
theorem lf_flat {s n : Nat} {D : List Int} {M : Mf} {f : Nat → Bool} (h : SpW s n D M) (hf : ∀ j, j < n → f j = true) : (LfF s n D f).flatten = D := by
  rw [lf_same (g := fun _ => true) hf]
  have := chk_flat h n (Nat.le_refl _)
  unfold LfF
  simp only [if_true]
  rw [show (List.range n).map (fun j => chk s D j) = (List.range n).map (chk s D) from rfl, this]
  apply List.take_of_length_le
  apply Classical.byContradiction
  intro q
  have := (chN_lt (n := D.length) (k := n) h.s1).2 (by omega)
  have := h.hn
  omega
theorem ms_none {s n : Nat} {D : List Int} {M : Mf} {f : Nat → Bool} (h : SpW s n D M) (hf : ∀ j, j < n → f j = true) : msN (LfF s n D f) n = [] := by
  have key : ∀ k, k ≤ n → msN (LfF s n D f) k = [] := by
    intro k
    induction k with
    | zero => intro _; rfl
    | succ k ih =>
      intro hk
      rw [(ms_at h (by omega)).1 (hf k (by omega)), ih (by omega)]
  exact key n (Nat.le_refl _)
theorem jo_lf {s n : Nat} {D : List Int} {M : Mf} {f : Nat → Bool} (h : SpW s n D M) (hf : ∀ j, j < n → f j = true) : joE M (LfF s n D f) = 0 := by
  unfold joE msL
  rw [sl_lf h, if_neg (by decide), lf_len, ms_none h hf, if_neg (by decide)]
theorem flat_small {s n : Nat} {D : List Int} {M : Mf} {f : Nat → Bool} (h : SpW s n D M) : (LfF s n D f).flatten.length ≤ 5000 := by
  have : ∀ (l : List (List Int)), (∀ x ∈ l, x.length ≤ 32) → l.flatten.length ≤ 32 * l.length := by
    intro l
    induction l with
    | nil => intro _; simp
    | cons a l ih =>
      intro hl
      have h1 := hl a (by simp)
      have h2 := ih (fun x hx => hl x (by simp [hx]))
      simp only [List.flatten_cons, List.length_append, List.length_cons]
      omega
  have h3 := this (LfF s n D f) (fun x hx => by
    obtain ⟨j, hj, rfl⟩ := List.mem_map.1 hx
    have := chk_pos h (List.mem_range.1 hj)
    have := h.s2
    split <;> simp <;> omega)
  rw [lf_len] at h3
  have := h.n2
  omega
end Go.Proofs.Yteodafhgfcbdpaa
