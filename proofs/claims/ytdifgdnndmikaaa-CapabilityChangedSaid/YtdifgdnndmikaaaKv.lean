/- Capabilities: plain facts about what is permitted. -/
import Derived.Test.YtdifgdnndmikaaaKu
namespace Go.Proofs.Ytdifgdnndmikaaa
open Go.RowKit

theorem prL_zero {r v t u : Int} : ∀ {l : List Cv}, prL r v t u l = 0 ↔ ∀ c ∈ l, ckE r v t u c.k c.v = 0
  | [] => by simp [prL]
  | c :: l => by
    unfold prL
    by_cases h : ckE r v t u c.k c.v = 0
    · rw [if_pos h, prL_zero (l := l)]; simp [h]
    · rw [if_neg h]; simp [h]
theorem ckE_ne {r v t u : Int} (k x : Int) : ckE r v t u k x ≠ 1 := by
  have h : ∀ (b : Bool) (e : Int), e ≠ 1 → unl b e ≠ 1 := fun b e he => by cases b <;> simp [unl, he]
  unfold ckE
  split
  · exact h _ _ (by omega)
  · split
    · exact h _ _ (by omega)
    · split
      · exact h _ _ (by omega)
      · split
        · exact h _ _ (by omega)
        · exact h _ _ (by omega)
theorem prL_ne {r v t u : Int} : ∀ (l : List Cv), prL r v t u l ≠ 1
  | [] => by simp [prL]
  | c :: l => by
    unfold prL
    split
    · exact prL_ne l
    · exact ckE_ne _ _
theorem prL_app {r v t u : Int} : ∀ (l m : List Cv), prL r v t u (l ++ m) = if prL r v t u l = 0 then prL r v t u m else prL r v t u l
  | [], m => by simp [prL]
  | c :: l, m => by
    rw [List.cons_append]
    have e : ∀ l : List Cv, prL r v t u (c :: l) = if ckE r v t u c.k c.v = 0 then prL r v t u l else ckE r v t u c.k c.v := fun _ => rfl
    rw [e, e, prL_app l m]
    by_cases h : ckE r v t u c.k c.v = 0
    · rw [if_pos h, if_pos h]
    · rw [if_neg h, if_neg h, if_neg h]
theorem pm_zero {id tag : Int} {l : List Cv} {r v x t u : Int} : pmE id tag l r v x t u = 0 ↔ pmB id tag l r v x t u = true ∧ ∀ c ∈ l, ckE r v t u c.k c.v = 0 := by
  unfold pmE
  cases h : pmB id tag l r v x t u
  · simp
  · simp [prL_zero]
theorem pm_one {id tag : Int} {l : List Cv} {r v x t u : Int} : pmE id tag l r v x t u = 1 ↔ pmB id tag l r v x t u = false := by
  unfold pmE
  cases h : pmB id tag l r v x t u
  · simp
  · simp [prL_ne]
theorem pmB_ask {id tag : Int} {l : List Cv} {r v x t u : Int} (h : pmB id tag l r v x t u = true) : (0 ≤ t ∧ t ≤ 1000000000) ∧ (0 ≤ u ∧ u ≤ 1000000000) := by
  unfold pmB asB at h
  simp only [Bool.and_eq_true, inr_iff] at h
  exact ⟨h.2.1.2.2.2, h.2.2⟩
/-- What is permitted at two times is permitted at each time between them, and with fewer uses. -/
theorem pm_mid {id tag : Int} {l : List Cv} {r v x t u d m u2 : Int} (h1 : pmE id tag l r v x t u = 0) (h2 : pmE id tag l r v x (t + d) u = 0) (hm : 0 ≤ m ∧ m ≤ d) (hu : 0 ≤ u2 ∧ u2 ≤ u) : pmE id tag l r v x (t + m) u2 = 0 := by
  rw [pm_zero] at h1 h2 ⊢
  obtain ⟨a1, b1⟩ := h1
  obtain ⟨a2, b2⟩ := h2
  refine ⟨?_, fun c hc => ?_⟩
  · unfold pmB asB at a1 a2 ⊢
    simp only [Bool.and_eq_true, inr_iff] at a1 a2 ⊢
    refine ⟨a1.1, ⟨a1.2.1.1, a1.2.1.2.1, a1.2.1.2.2.1, ?_⟩, ?_⟩
    · have := a1.2.1.2.2.2; have := a2.2.1.2.2.2; omega
    · have := a1.2.2; omega
  · have c1 := b1 c hc
    have c2 := b2 c hc
    unfold ckE unl at c1 c2 ⊢
    split
    · rename_i h; rw [if_pos h] at c1; exact c1
    · rename_i h
      rw [if_neg h] at c1 c2
      split
      · rename_i h; rw [if_pos h] at c1; exact c1
      · rename_i h
        rw [if_neg h] at c1 c2
        split
        · rename_i h
          rw [if_pos h] at c1 c2
          by_cases h3 : c.v ≤ t
          · rw [if_pos (decide_eq_true (show c.v ≤ t + m by omega))]
          · simp [h3] at c1
        · rename_i h
          rw [if_neg h] at c1 c2
          split
          · rename_i h
            rw [if_pos h] at c1 c2
            by_cases h3 : t + d < c.v
            · rw [if_pos (decide_eq_true (show t + m < c.v by omega))]
            · simp [h3] at c2
          · rename_i h
            rw [if_neg h] at c1 c2
            by_cases h3 : u < c.v
            · rw [if_pos (decide_eq_true (show u2 < c.v by omega))]
            · simp [h3] at c1
/-- The caveats in the opposite order, each twice. -/
def dbl (l : List Cv) : List Cv := l.reverse.flatMap fun c => [c, c]
theorem dbl_mem {l : List Cv} {c : Cv} : c ∈ dbl l ↔ c ∈ l := by
  unfold dbl
  simp
theorem dbl_len (l : List Cv) : (dbl l).length = l.length * 2 := by
  unfold dbl
  have h : ∀ m : List Cv, (m.flatMap fun c => [c, c]).length = m.length * 2 := fun m => by
    induction m with
    | nil => rfl
    | cons a l ih => simp only [List.flatMap_cons, List.length_append, List.length_cons, List.length_nil, ih]; omega
  rw [h, List.length_reverse]
theorem dbl_cons (c : Cv) (l : List Cv) : dbl (c :: l) = dbl l ++ [c, c] := by
  unfold dbl; simp
theorem pm_dbl {l : List Cv} {r v x t u : Int} (h : l.length ≤ 6) : pmB 0 0 (dbl l) r v x t u = pmB 0 0 l r v x t u ∧ (pmE 0 0 (dbl l) r v x t u = 0 ↔ pmE 0 0 l r v x t u = 0) := by
  have hb : pmB 0 0 (dbl l) r v x t u = pmB 0 0 l r v x t u := by
    unfold pmB capB
    have ha : (dbl l).any bad = l.any bad := by
      rw [Bool.eq_iff_iff, List.any_eq_true, List.any_eq_true]
      simp only [dbl_mem]
    rw [ha, dbl_len, show decide (l.length * 2 ≤ 12) = true by simp; omega, show decide (l.length ≤ 12) = true by simp; omega]
  refine ⟨hb, ?_⟩
  rw [pm_zero, pm_zero, hb]
  simp only [dbl_mem]
theorem capB_parts {id tag : Int} {l : List Cv} : capB id tag l = true ↔ (0 ≤ id ∧ id ≤ 1000000) ∧ (0 ≤ tag ∧ tag ≤ 2147483646) ∧ l.length ≤ 12 ∧ l.any bad = false := by
  unfold capB
  simp only [Bool.and_eq_true, inr_iff, decide_eq_true_iff, Bool.not_eq_true']
theorem md_parts {key id : Int} {l : List Cv} (h : mdB key id l = true) : (0 ≤ key ∧ key ≤ 2147483646) ∧ capB id (tk (tg0 key id) l l.length) l = true ∧ gnB key id (tk (tg0 key id) l l.length) l = true := by
  have h0 := h
  unfold mdB at h
  simp only [Bool.and_eq_true, decide_eq_true_iff, Bool.not_eq_true'] at h
  obtain ⟨k1, k2⟩ := mt_id h.1
  have hb := tk_bd key id l l.length
  have hc : capB id (tk (tg0 key id) l l.length) l = true := capB_parts.2 ⟨inr_iff.1 k2, by omega, h.2.1, h.2.2⟩
  refine ⟨inr_iff.1 k1, hc, ?_⟩
  unfold gnB
  rw [k1, hc]; simp
theorem tk_app (t0 : Int) (l m : List Cv) : ∀ j, j ≤ l.length → tk t0 (l ++ m) j = tk t0 l j
  | 0, _ => rfl
  | j + 1, h => by
    unfold tk
    rw [tk_app t0 l m j (by omega)]
    congr 1
    simp [List.getD, List.getElem?_append, show j < l.length by omega]
theorem tk_end (t0 : Int) (l : List Cv) (c : Cv) : tk t0 (l ++ [c]) (l ++ [c]).length = tgN (tk t0 l l.length) c := by
  rw [show (l ++ [c]).length = l.length + 1 by simp]
  show tgN (tk t0 (l ++ [c]) l.length) ((l ++ [c]).getD l.length zC) = _
  rw [tk_app t0 l [c] _ (Nat.le_refl _)]
  congr 1
  simp
/-- The capability with one caveat more. -/
theorem nr_parts {key id : Int} {l : List Cv} {c : Cv} (h : mdB key id l = true) (hn : nrE id (tk (tg0 key id) l l.length) l c.k c.v = 0) : capB id (tgN (tk (tg0 key id) l l.length) c) (l ++ [c]) = true ∧ gnB key id (tgN (tk (tg0 key id) l l.length) c) (l ++ [c]) = true ∧ cvB c.k c.v = true := by
  obtain ⟨hk, hc, hg⟩ := md_parts h
  unfold nrE at hn
  rw [hc] at hn
  cases hv : cvB c.k c.v
  · rw [hv] at hn; simp at hn
  · rw [hv] at hn
    have h12 : l.length ≠ 12 := fun e => by simp [e] at hn
    have hp := capB_parts.1 hc
    have hb : 0 ≤ tgN (tk (tg0 key id) l l.length) c ∧ tgN (tk (tg0 key id) l l.length) c < 2147483647 := Dg_bd _
    have hc2 : capB id (tgN (tk (tg0 key id) l l.length) c) (l ++ [c]) = true := capB_parts.2 ⟨hp.1, by omega, by have := hp.2.2.1; simp; omega, by
      rw [List.any_append, hp.2.2.2]
      simp [bad, hv]⟩
    refine ⟨hc2, ?_, rfl⟩
    unfold gnB
    rw [inr_iff.2 hk, hc2, tk_end]; simp
theorem nr_fail {key id : Int} {l : List Cv} {c : Cv} {er : Int} (h : mdB key id l = true) (he : nrE id (tk (tg0 key id) l l.length) l c.k c.v = er) (hn : er ≠ 0) : er = 1 ∨ (er ≠ 1 ∧ er = 30 ∧ l.length = 12) := by
  obtain ⟨hk, hc, hg⟩ := md_parts h
  unfold nrE at he
  rw [hc] at he
  cases hv : cvB c.k c.v
  · rw [hv] at he; simp at he; exact .inl he.symm
  · rw [hv] at he
    by_cases h12 : l.length = 12
    · simp [h12] at he; exact .inr ⟨by omega, he.symm, h12⟩
    · simp [h12] at he; exact absurd he.symm hn
theorem ck_pm {key id tag : Int} {l : List Cv} {r v x t u : Int} (hk : 0 ≤ key ∧ key ≤ 2147483646) (hg : gnB key id tag l = true) : ckV key id tag l r v x t u = pmE id tag l r v x t u := by
  unfold ckV
  rw [inr_iff.2 hk, hg]
  by_cases h : pmE id tag l r v x t u = 1
  · simp [h]
  · simp [h]
theorem ch_one {key id : Int} {l : List Cv} {c : Cv} (h : mdB key id l = true) (hn : nrE id (tk (tg0 key id) l l.length) l c.k c.v = 0) : chB key id (tgN (tk (tg0 key id) l l.length) c) (l ++ [c]) = chB key id (tk (tg0 key id) l l.length) l ++ [tgN (tk (tg0 key id) l l.length) c] ∧ (chB key id (tk (tg0 key id) l l.length) l).length = l.length + 1 := by
  obtain ⟨hk, hc, hg⟩ := md_parts h
  obtain ⟨hc2, hg2, -⟩ := nr_parts h hn
  unfold chB
  rw [hg, hg2, if_pos rfl, if_pos rfl]
  refine ⟨?_, chL_len _ _⟩
  have h1 := chL_take (tg0 key id) (l ++ [c]) (l.length + 1) (by simp)
  rw [List.take_of_length_le (by rw [chL_len]; simp)] at h1
  rw [h1]
  have h2 := tk_end (tg0 key id) l c
  rw [show (l ++ [c]).length = l.length + 1 by simp] at h2
  rw [h2]
  congr 1
  apply List.ext_getElem
  · simp [chL_len]
  · intro i h3 h4
    have h5 : i ≤ l.length := by rw [chL_len] at h4; omega
    simp [chL, tk_app _ _ _ _ h5]
/-- The narrowed capability permits what the one before and the caveat alone permit. -/
theorem pm_add {key id : Int} {l : List Cv} {c : Cv} {r v x t u : Int} (h : mdB key id l = true) (hn : nrE id (tk (tg0 key id) l l.length) l c.k c.v = 0) :
    (pmE id (tgN (tk (tg0 key id) l l.length) c) (l ++ [c]) r v x t u = 0 ↔ pmE id (tk (tg0 key id) l l.length) l r v x t u = 0 ∧ pmE 0 0 [c] r v x t u = 0) ∧ (pmE id (tk (tg0 key id) l l.length) l r v x t u = 0 ∨ pmE id (tgN (tk (tg0 key id) l l.length) c) (l ++ [c]) r v x t u = pmE id (tk (tg0 key id) l l.length) l r v x t u) := by
  obtain ⟨hk, hc, hg⟩ := md_parts h
  obtain ⟨hc2, hg2, hv⟩ := nr_parts h hn
  have h3 : capB 0 0 [c] = true := capB_parts.2 ⟨by omega, by omega, by simp, by simp [bad, hv]⟩
  unfold pmE pmB
  rw [hc, hc2, h3]
  simp only [Bool.true_and]
  cases hb : (asB r v x t && inr u 0 1000000000)
  · simp
  · simp only [if_true]
    rw [prL_app]
    by_cases h4 : prL r v t u l = 0
    · simp [h4]
    · rw [if_neg h4]; simp [h4]
end Go.Proofs.Ytdifgdnndmikaaa
