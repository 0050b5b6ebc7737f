/- Guests: plain facts about what is permitted, and what is revoked. -/
import Derived.Test.YtoaleijfpocdjaaRo
namespace Go.Proofs.Ytoaleijfpocdjaa
open Go.RowKit

theorem mg_fit {a b : List Int} (ha : stB a = true) (hb : stB b = true) (h : a.length + b.length ≤ 400) : mgE a b = 0 ∧ mgL a b = mg a b ∧ stB (mg a b) = true := by
  have hl := mg_len a b
  have h4 : (mg a b).length ≤ 400 := by omega
  have e : mgE a b = 0 := by unfold mgE; rw [ha, hb]; simp [h4]
  exact ⟨e, by unfold mgL; rw [e]; rfl, mg_st ha hb h4⟩
/-- A set of the numbers of a list. -/
def So (l zs : List Int) : Prop := stB l = true ∧ l.length ≤ zs.length ∧ ∀ z, z ∈ l ↔ z ∈ zs
theorem So.add {l zs : List Int} {y : Int} (h : So l zs) (hy : 0 ≤ y ∧ y ≤ 2147483646) (hl : zs.length < 50) : mgE l [y] = 0 ∧ mgL l [y] = mg l [y] ∧ So (mg l [y]) (zs ++ [y]) := by
  obtain ⟨h1, h2, h3⟩ := h
  have hs : stB [y] = true := by rw [st_one]; exact inr_iff.2 hy
  obtain ⟨e1, e2, e3⟩ := mg_fit h1 hs (by simp; omega)
  refine ⟨e1, e2, e3, ?_, fun z => ?_⟩
  · have := mg_len l [y]; simp at this ⊢; omega
  · rw [mem_mg, h3, List.mem_append]
theorem ckV_ne (key id tag : Int) (l : List Cv) (r v x t u : Int) : ckV key id tag l r v x t u ≠ 21 := by
  have h1 : ∀ (k z : Int), ckE r v t u k z ≠ 21 := fun k z => by
    unfold ckE unl
    split
    · split <;> decide
    · split
      · split <;> decide
      · split
        · split <;> decide
        · split
          · split <;> decide
          · split <;> decide
  have h2 : ∀ l : List Cv, prL r v t u l ≠ 21 := fun l => by
    induction l with
    | nil => unfold prL; decide
    | cons c l ih =>
      unfold prL
      split
      · exact ih
      · exact h1 _ _
  unfold ckV
  split
  · split
    · unfold pmE
      split
      · exact h2 _
      · decide
    · decide
  · decide
theorem any_mg (c a b : List Int) : c.any (inB (mg a b)) = (c.any (inB a) || c.any (inB b)) := by
  rw [Bool.eq_iff_iff, Bool.or_eq_true, List.any_eq_true, List.any_eq_true, List.any_eq_true]
  constructor
  · rintro ⟨y, hy, h⟩
    rw [inB_iff, mem_mg] at h
    rcases h with h | h
    · exact .inl ⟨y, hy, inB_iff.2 h⟩
    · exact .inr ⟨y, hy, inB_iff.2 h⟩
  · rintro (⟨y, hy, h⟩ | ⟨y, hy, h⟩)
    · exact ⟨y, hy, inB_iff.2 ((mem_mg _ _ _).2 (.inl (inB_iff.1 h)))⟩
    · exact ⟨y, hy, inB_iff.2 ((mem_mg _ _ _).2 (.inr (inB_iff.1 h)))⟩
theorem prL_zero {r v t u : Int} : ∀ {l : List Cv}, prL r v t u l = 0 ↔ ∀ c ∈ l, ckE r v t u c.k c.v = 0
  | [] => by simp [prL]
  | c :: l => by
    unfold prL
    by_cases h : ckE r v t u c.k c.v = 0
    · rw [if_pos h, prL_zero (l := l)]; simp [h]
    · rw [if_neg h]; simp [h]
theorem pm_zero {id tag : Int} {l : List Cv} {r v x t u : Int} : pmE id tag l r v x t u = 0 ↔ pmB id tag l r v x t u = true ∧ ∀ c ∈ l, ckE r v t u c.k c.v = 0 := by
  unfold pmE
  cases h : pmB id tag l r v x t u
  · simp
  · simp [prL_zero]
theorem capB_parts {id tag : Int} {l : List Cv} : capB id tag l = true ↔ (0 ≤ id ∧ id ≤ 1000000) ∧ (0 ≤ tag ∧ tag ≤ 2147483646) ∧ l.length ≤ 12 ∧ l.any bad = false := by
  unfold capB
  simp only [Bool.and_eq_true, inr_iff, decide_eq_true_iff, Bool.not_eq_true']
theorem tk_app (t0 : Int) (l m : List Cv) : ∀ j, j ≤ l.length → tk t0 (l ++ m) j = tk t0 l j
  | 0, _ => rfl
  | j + 1, h => by
    unfold tk
    rw [tk_app t0 l m j (by omega)]
    congr 1
    simp [List.getD, List.getElem?_append, show j < l.length by omega]
theorem tk_end (t0 : Int) (l : List Cv) (c : Cv) : tk t0 (l ++ [c]) (l ++ [c]).length = tgN (tk t0 l l.length) c := by
  rw [show (l ++ [c]).length = l.length + 1 by simp]
  show tgN (tk t0 (l ++ [c]) l.length) ((l ++ [c]).getD l.length zC) = _
  rw [tk_app t0 l [c] _ (Nat.le_refl _)]
  congr 1
  simp
theorem prL_ne1 {r v t u : Int} : ∀ (l : List Cv), prL r v t u l ≠ 1 := by
  have h : ∀ (b : Bool) (e : Int), e ≠ 1 → unl b e ≠ 1 := fun b e he => by cases b <;> simp [unl, he]
  have h1 : ∀ k z : Int, ckE r v t u k z ≠ 1 := fun k z => by
    unfold ckE
    split
    · exact h _ _ (by omega)
    · split
      · exact h _ _ (by omega)
      · split
        · exact h _ _ (by omega)
        · split
          · exact h _ _ (by omega)
          · exact h _ _ (by omega)
  intro l
  induction l with
  | nil => simp [prL]
  | cons c l ih =>
    unfold prL
    split
    · exact ih
    · exact h1 _ _
theorem gn_parts {key id tag : Int} {l : List Cv} (h : gnB key id tag l = true) : inr key 0 2147483646 = true ∧ capB id tag l = true ∧ tk (tg0 key id) l l.length = tag := by
  unfold gnB at h
  simp only [Bool.and_eq_true, decide_eq_true_iff] at h
  exact h
theorem nr_gn {key id tag : Int} {l : List Cv} {c : Cv} (h : gnB key id tag l = true) (hn : nrE id tag l c.k c.v = 0) : gnB key id (tgN tag c) (l ++ [c]) = true ∧ capB id (tgN tag c) (l ++ [c]) = true ∧ chB key id (tgN tag c) (l ++ [c]) = chB key id tag l ++ [tgN tag c] := by
  obtain ⟨hk, hc, hg⟩ := gn_parts h
  have hv : cvB c.k c.v = true := by
    cases hv : cvB c.k c.v
    · unfold nrE at hn; simp [hv] at hn
    · rfl
  have h12 : l.length ≠ 12 := fun e => by unfold nrE at hn; simp [hc, hv, e] at hn
  have hp := capB_parts.1 hc
  have hb : 0 ≤ tgN tag c ∧ tgN tag c < 2147483647 := Dg_bd _
  have hc2 : capB id (tgN tag c) (l ++ [c]) = true := capB_parts.2 ⟨hp.1, by omega, by have := hp.2.2.1; simp; omega, by
    rw [List.any_append, hp.2.2.2]; simp [bad, hv]⟩
  have hg2 : gnB key id (tgN tag c) (l ++ [c]) = true := by
    unfold gnB; rw [hk, hc2, tk_end, hg]; simp
  refine ⟨hg2, hc2, ?_⟩
  unfold chB
  rw [h, hg2, if_pos rfl, if_pos rfl]
  have h1 := chL_take (tg0 key id) (l ++ [c]) (l.length + 1) (by simp)
  rw [List.take_of_length_le (by rw [chL_len]; simp)] at h1
  rw [h1]
  have h2 := tk_end (tg0 key id) l c
  rw [show (l ++ [c]).length = l.length + 1 by simp, hg] at h2
  rw [h2]
  congr 1
  apply List.ext_getElem
  · simp [chL_len]
  · intro i h3 h4
    have h5 : i ≤ l.length := by rw [chL_len] at h4; omega
    simp [chL, tk_app _ _ _ _ h5]
theorem ckR_g {key id tag : Int} {m : List Int} {l : List Cv} {r v x t u : Int} (hs : stB m = true) (h1 : ckV key id tag l r v x t u ≠ 1) : ckR key m id tag l r v x t u = if (chB key id tag l).any (inB m) then 21 else ckV key id tag l r v x t u := by
  unfold ckR; rw [if_pos hs, if_neg h1]
theorem ckR_one {key id tag : Int} {m : List Int} {l : List Cv} {r v x t u : Int} (h : ckR key m id tag l r v x t u ≠ 1) : ckV key id tag l r v x t u ≠ 1 := fun e => h (by
  unfold ckR; simp [e])
theorem ck_pm {key id tag : Int} {l : List Cv} {r v x t u : Int} (hk : 0 ≤ key ∧ key ≤ 2147483646) (hg : gnB key id tag l = true) : ckV key id tag l r v x t u = pmE id tag l r v x t u := by
  unfold ckV
  rw [inr_iff.2 hk, hg]
  by_cases h : pmE id tag l r v x t u = 1
  · simp [h]
  · simp [h]
/-- What a request must be for every caveat. -/
def pm0 (r v x t u : Int) : Bool := asB r v x t && inr u 0 1000000000
/-- What the caveats permit, each alone. -/
def pAll (l : List Cv) (r v x t u : Int) : Bool := pm0 r v x t u && l.all (fun c => pmE 0 0 [c] r v x t u == 0)
theorem pm_alone {c : Cv} {r v x t u : Int} (hb : bad c = false) (h0 : pm0 r v x t u = true) : pmE 0 0 [c] r v x t u = 0 ↔ ckE r v t u c.k c.v = 0 := by
  have hc : capB 0 0 [c] = true := capB_parts.2 ⟨by omega, by omega, by simp, by simp [hb]⟩
  have hp : pmB 0 0 [c] r v x t u = true := by
    unfold pm0 at h0; unfold pmB; rw [hc, h0]; rfl
  rw [pm_zero, hp]; simp
theorem pAll_iff {id tag : Int} {l : List Cv} {r v x t u : Int} (hc : capB id tag l = true) : pAll l r v x t u = true ↔ pmE id tag l r v x t u = 0 := by
  have hb : ∀ c ∈ l, bad c = false := fun c h => by
    have := List.any_eq_false.1 (capB_parts.1 hc).2.2.2 c h
    simpa using this
  have hp : pmB id tag l r v x t u = pm0 r v x t u := by unfold pmB pm0; rw [hc]; rfl
  rw [pm_zero, hp]
  unfold pAll
  rw [Bool.and_eq_true, List.all_eq_true]
  constructor
  · rintro ⟨h0, h1⟩
    exact ⟨h0, fun c h => (pm_alone (hb c h) h0).1 (by simpa using h1 c h)⟩
  · rintro ⟨h0, h1⟩
    exact ⟨h0, fun c h => by simpa using (pm_alone (hb c h) h0).2 (h1 c h)⟩
theorem tg_got {key id tag : Int} {l : List Cv} {M : List Int} {r v x t u : Int} (hg : gnB key id tag l = true) (hM : stB M = true) : ckR key M id tag l r v x t u = 0 ↔ pAll l r v x t u = true ∧ (chB key id tag l).any (inB M) = false := by
  obtain ⟨hk, hc, -⟩ := gn_parts hg
  have e := ck_pm (r := r) (v := v) (x := x) (t := t) (u := u) (inr_iff.1 hk) hg
  rw [pAll_iff hc]
  unfold ckR
  rw [if_pos hM, e]
  by_cases h1 : pmE id tag l r v x t u = 1
  · rw [if_pos h1, h1]; simp
  · rw [if_neg h1]
    cases ha : (chB key id tag l).any (inB M)
    · simp
    · simp
theorem tg_again {key id tag : Int} {l : List Cv} {c : Cv} {M : List Int} {r v x t u : Int} (hg : gnB key id tag l = true) (hM : stB M = true) (hn : nrE id tag l c.k c.v = 0) (h : ckR key M id (tgN tag c) (l ++ [c]) r v x t u = 0) :
    ckR key M id tag l r v x t u = 0 ∧ pmE 0 0 [c] r v x t u = 0 ∧ (chB key id tag l).any (inB M) = false := by
  obtain ⟨g1, g2, g3⟩ := nr_gn hg hn
  rw [tg_got g1 hM, g3, List.any_append, Bool.or_eq_false_iff] at h
  obtain ⟨h1, h2, -⟩ := h
  unfold pAll at h1
  rw [Bool.and_eq_true, List.all_append, Bool.and_eq_true] at h1
  refine ⟨(tg_got hg hM).2 ⟨?_, h2⟩, ?_, h2⟩
  · unfold pAll; rw [h1.1, h1.2.1]; rfl
  · have := h1.2.2; simpa using this
theorem tg_err {id tag : Int} {l : List Cv} {k v er : Int} (h : nrE id tag l k v = er) (h0 : er ≠ 0) (hl : l.length ≤ 11) : er = 1 := by
  unfold nrE at h
  split at h
  · rw [if_neg (by omega)] at h; exact absurd h.symm h0
  · exact h.symm
/-- The tags that were revoked at either hub. -/
def rvB (a b : List Int) (z : Int) : Bool := inB a z || inB b z
theorem rv_any {a b L1 L2 : List Int} (c : List Int) (h1 : ∀ z, z ∈ L1 ↔ z ∈ a) (h2 : ∀ z, z ∈ L2 ↔ z ∈ b) : c.any (rvB a b) = c.any (inB (mg L1 L2)) := by
  rw [any_mg, Bool.eq_iff_iff, Bool.or_eq_true, List.any_eq_true, List.any_eq_true, List.any_eq_true]
  unfold rvB
  constructor
  · rintro ⟨y, hy, h⟩
    rw [Bool.or_eq_true, inB_iff, inB_iff, ← h1, ← h2] at h
    rcases h with h | h
    · exact .inl ⟨y, hy, inB_iff.2 h⟩
    · exact .inr ⟨y, hy, inB_iff.2 h⟩
  · rintro (⟨y, hy, h⟩ | ⟨y, hy, h⟩)
    · exact ⟨y, hy, by rw [inB_iff, h1] at h; rw [inB_iff.2 h]; rfl⟩
    · exact ⟨y, hy, by rw [inB_iff, h2] at h; rw [inB_iff.2 h]; simp⟩
end Go.Proofs.Ytoaleijfpocdjaa
