/- Shedding: the law of groups, plainly. -/
import Derived.Test.YtpablikcidlkaaaTf
namespace Go.Proofs.Ytpablikcidlkaaa
open Go.RowKit

/-- The indices of those with at least a priority. -/
def gI (l : List (Int × Int)) (g : Int) (n : Nat) : List Nat := (List.range' 0 n).filter fun i => decide (g ≤ pri l i)
def gC (l : List (Int × Int)) (g : Int) (n : Nat) : List (Int × Int) := (gI l g n).map fun i => l.getD i (0, 0)
def gB (l : List (Int × Int)) (g : Int) (b : List Bool) (n : Nat) : List Bool := (gI l g n).map fun i => b.getD i false
theorem gI_yes {l : List (Int × Int)} {g : Int} {n : Nat} (h : g ≤ pri l n) : gI l g (n + 1) = gI l g n ++ [n] := by
  unfold gI
  rw [List.range'_1_concat, List.filter_append, Nat.zero_add]
  simp [h]
theorem gI_no {l : List (Int × Int)} {g : Int} {n : Nat} (h : ¬ g ≤ pri l n) : gI l g (n + 1) = gI l g n := by
  unfold gI
  rw [List.range'_1_concat, List.filter_append, Nat.zero_add]
  simp [h]
theorem gC_yes {l : List (Int × Int)} {g : Int} {n : Nat} (h : g ≤ pri l n) : gC l g (n + 1) = gC l g n ++ [l.getD n (0, 0)] := by unfold gC; rw [gI_yes h, List.map_append]; rfl
theorem gC_no {l : List (Int × Int)} {g : Int} {n : Nat} (h : ¬ g ≤ pri l n) : gC l g (n + 1) = gC l g n := by unfold gC; rw [gI_no h]
theorem gB_yes {l : List (Int × Int)} {g : Int} (b : List Bool) {n : Nat} (h : g ≤ pri l n) : gB l g b (n + 1) = gB l g b n ++ [b.getD n false] := by unfold gB; rw [gI_yes h, List.map_append]; rfl
theorem gB_no {l : List (Int × Int)} {g : Int} (b : List Bool) {n : Nat} (h : ¬ g ≤ pri l n) : gB l g b (n + 1) = gB l g b n := by unfold gB; rw [gI_no h]
theorem gI_len (l : List (Int × Int)) (g : Int) (n : Nat) : (gI l g n).length ≤ n := by
  unfold gI
  have := List.length_filter_le (fun i => decide (g ≤ pri l i)) (List.range' 0 n)
  rw [List.length_range'] at this
  exact this
theorem gC_len (l : List (Int × Int)) (g : Int) (n : Nat) : (gC l g n).length = (gI l g n).length := by unfold gC; simp
theorem gB_len (l : List (Int × Int)) (g : Int) (b : List Bool) (n : Nat) : (gB l g b n).length = (gI l g n).length := by unfold gB; simp
theorem gI_mem {l : List (Int × Int)} {g : Int} {n i : Nat} (h : i ∈ gI l g n) : i < n ∧ g ≤ pri l i := by
  unfold gI at h
  rw [List.mem_filter, List.mem_range'_1] at h
  obtain ⟨h1, h2⟩ := h
  exact ⟨by omega, of_decide_eq_true h2⟩
theorem gI_lt (l : List (Int × Int)) (g : Int) (n : Nat) : (gI l g n).Pairwise (· < ·) := by
  unfold gI
  exact List.Pairwise.filter _ List.pairwise_lt_range'
/-- A sorted list parts where a property ends. -/
theorem srt_parts {P : Nat → Int} (p : Nat → Bool) (hp : ∀ x y, bef P x y → p y = true → p x = true) : ∀ {O : List Nat}, Srt P O → O = O.filter p ++ O.filter (fun x => !p x)
  | [], _ => rfl
  | x :: O, h => by
    obtain ⟨h1, h2⟩ := List.pairwise_cons.1 h
    cases hx : p x with
    | true =>
      have ih := srt_parts p hp h2
      rw [List.filter_cons_of_pos (by rw [hx]), List.filter_cons_of_neg (by rw [hx]; simp), List.cons_append, ← ih]
    | false =>
      have hno : ∀ y ∈ O, p y = false := fun y hy => by
        cases hy2 : p y with
        | false => rfl
        | true => rw [hp x y (h1 y hy) hy2] at hx; cases hx
      rw [List.filter_cons_of_neg (by rw [hx]; simp), List.filter_cons_of_pos (by rw [hx]; rfl)]
      have e1 : O.filter p = [] := List.filter_eq_nil_iff.2 fun y hy => by rw [hno y hy]; simp
      have e2 : O.filter (fun x => !p x) = O := List.filter_eq_self.2 fun y hy => by rw [hno y hy]; rfl
      rw [e1, e2, List.nil_append]
theorem map_getD (I : List Nat) : (List.range' 0 I.length).map (fun j => I.getD j 0) = I := by
  apply List.ext_getElem
  · simp
  · intro i h1 h2
    simp [h2]
/-- The order of those is the beginning of the order. -/
theorem ord_group (l : List (Int × Int)) (g : Int) :
    (ordL (pri l) l.length).filter (fun i => decide (g ≤ pri l i)) = (ordL (pri (gC l g l.length)) (gC l g l.length).length).map fun j => (gI l g l.length).getD j 0 := by
  have hs := ord_is (pri l) l.length
  have ht := ord_is (pri (gC l g l.length)) (gC l g l.length).length
  have hlt := gI_lt l g l.length
  have hlen := gC_len l g l.length
  have hpri : ∀ j, j < (gI l g l.length).length → pri (gC l g l.length) j = pri l ((gI l g l.length).getD j 0) := fun j hj => by
    unfold pri gC
    simp [hj]
  refine srt_eq (P := pri l) (List.Pairwise.filter _ hs.2) ?_ ?_
  · unfold Srt
    rw [List.pairwise_map]
    refine List.Pairwise.imp_of_mem (fun {a b} ha hb hab => ?_) ht.2
    have h1 := (ht.mem ha).2
    have h2 := (ht.mem hb).2
    rw [hlen] at h1 h2
    unfold bef at hab ⊢
    rw [hpri a h1, hpri b h2] at hab
    rcases hab with h | ⟨h, hab⟩
    · exact .inl h
    · refine .inr ⟨h, ?_⟩
      have := List.pairwise_iff_getElem.1 hlt a b h1 h2 hab
      simpa [h1, h2] using this
  · have p1 : ((ordL (pri l) l.length).filter (fun i => decide (g ≤ pri l i))).Perm (gI l g l.length) := by
      have := hs.1.filter (fun i => decide (g ≤ pri l i))
      rw [Nat.sub_zero] at this
      exact this
    have p2 := ht.1.map fun j => (gI l g l.length).getD j 0
    rw [Nat.sub_zero, hlen, map_getD] at p2
    rw [hlen]
    exact p1.trans p2.symm
/-- Two keepings side by side. -/
structure Sim (e : Nat → Nat) (m : Nat) (st st' : Int × List Bool) : Prop where
  sum : st.1 = st'.1
  len : st'.2.length = m
  into : ∀ j, j < m → e j < st.2.length
  bits : ∀ j, j < m → st.2.getD (e j) false = st'.2.getD j false
theorem getD_set (s : List Bool) (i j : Nat) (hi : i < s.length) : (s.set i true).getD j false = if i = j then true else s.getD j false := by
  simp only [List.getD_eq_getElem?_getD, List.getElem?_set]
  by_cases h : i = j
  · subst h; simp [hi]
  · simp [h]
theorem sim_step {l S : List (Int × Int)} {lim lim' : Nat → Int} {e : Nat → Nat} {m y : Nat} {st st' : Int × List Bool} (hinj : ∀ i j, i < m → j < m → e i = e j → i = j) (hy : y < m) (hp : pow S y = pow l (e y)) (hl : lim' y = lim (e y)) (h : Sim e m st st') : Sim e m (kst l lim st (e y)) (kst S lim' st' y) := by
  unfold kst
  rw [hp, hl, ← h.sum]
  by_cases hc : st.1 + pow l (e y) ≤ lim (e y)
  · rw [if_pos hc, if_pos hc]
    refine ⟨rfl, by simp [h.len], fun j hj => by simp; exact h.into j hj, fun j hj => ?_⟩
    show (st.2.set (e y) true).getD (e j) false = (st'.2.set y true).getD j false
    rw [getD_set _ _ _ (h.into y hy), getD_set _ _ _ (by rw [h.len]; exact hy)]
    by_cases hyj : y = j
    · subst hyj; simp
    · rw [if_neg hyj, if_neg fun he => hyj (hinj y j hy hj he)]
      exact h.bits j hj
  · rw [if_neg hc, if_neg hc]
    exact h
theorem sim_fold {l S : List (Int × Int)} {lim lim' : Nat → Int} {e : Nat → Nat} {m : Nat} (hinj : ∀ i j, i < m → j < m → e i = e j → i = j) (hp : ∀ y, y < m → pow S y = pow l (e y)) (hl : ∀ y, y < m → lim' y = lim (e y)) :
    ∀ (pre : List Nat), (∀ y ∈ pre, y < m) → ∀ st st', Sim e m st st' → Sim e m ((pre.map e).foldl (kst l lim) st) (pre.foldl (kst S lim') st')
  | [], _, _, _, h => h
  | y :: pre, hm, st, st', h => by
    rw [List.map_cons, List.foldl_cons, List.foldl_cons]
    have hy := hm y (by simp)
    exact sim_fold hinj hp hl pre (fun z hz => hm z (by simp [hz])) _ _ (sim_step hinj hy (hp y hy) (hl y hy) h)
theorem rest_bits {l : List (Int × Int)} {lim : Nat → Int} (k : Nat) : ∀ (pre : List Nat), (∀ y ∈ pre, y ≠ k) → ∀ st : Int × List Bool, (pre.foldl (kst l lim) st).2.getD k false = st.2.getD k false
  | [], _, _ => rfl
  | y :: pre, h, st => by
    rw [List.foldl_cons, rest_bits k pre (fun z hz => h z (by simp [hz]))]
    unfold kst
    split
    · have := h y (by simp)
      simp only [List.getD_eq_getElem?_getD]
      rw [List.getElem?_set_ne this]
    · rfl
theorem groups_is (l : List (Int × Int)) (bf : List Bool) (x M g : Int) :
    kpL (gC l g l.length) (lim2 (gB l g bf l.length) x M) = gB l g (kpL l (lim2 bf x M)) l.length := by
  have hlen := gC_len l g l.length
  have hord := ord_group l g
  have hparts := srt_parts (P := pri l) (fun i => decide (g ≤ pri l i)) (fun a b hab hb => by
    have := of_decide_eq_true hb
    apply decide_eq_true
    unfold bef at hab
    omega) (ord_is (pri l) l.length).2
  rw [hord] at hparts
  have ht := ord_is (pri (gC l g l.length)) (gC l g l.length).length
  obtain ⟨m, hm⟩ : ∃ m, (gI l g l.length).length = m := ⟨_, rfl⟩
  have hlt := gI_lt l g l.length
  have hget : ∀ j, j < m → (gI l g l.length).getD j 0 ∈ gI l g l.length := fun j hj => by
    rw [show (gI l g l.length).getD j 0 = (gI l g l.length)[j]'(by omega) by simp [hm, hj]]
    exact List.getElem_mem _
  have hinj : ∀ i j, i < m → j < m → (gI l g l.length).getD i 0 = (gI l g l.length).getD j 0 → i = j := fun i j hi hj he => by
    have h1 : i < (gI l g l.length).length := by omega
    have h2 : j < (gI l g l.length).length := by omega
    have he2 : (gI l g l.length)[i] = (gI l g l.length)[j] := by simpa [h1, h2] using he
    rcases Nat.lt_trichotomy i j with h | h | h
    · have := List.pairwise_iff_getElem.1 hlt i j h1 h2 h; omega
    · exact h
    · have := List.pairwise_iff_getElem.1 hlt j i h2 h1 h; omega
  have hpw : ∀ y, y < m → pow (gC l g l.length) y = pow l ((gI l g l.length).getD y 0) := fun y hy => by
    have : y < (gI l g l.length).length := by omega
    unfold pow gC
    simp [this]
  have hlim : ∀ y, y < m → lim2 (gB l g bf l.length) x M y = lim2 bf x M ((gI l g l.length).getD y 0) := fun y hy => by
    have h1 : y < (gI l g l.length).length := by omega
    have : (gB l g bf l.length).getD y false = bf.getD ((gI l g l.length).getD y 0) false := by
      unfold gB
      simp [h1]
    unfold lim2
    rw [this]
  have hsim := sim_fold (l := l) (S := gC l g l.length) (lim := lim2 bf x M) (lim' := lim2 (gB l g bf l.length) x M) (e := fun j => (gI l g l.length).getD j 0) (m := m) hinj hpw hlim
    (ordL (pri (gC l g l.length)) (gC l g l.length).length) (fun y hy => by have := (ht.mem hy).2; omega) (0, List.replicate l.length false) (0, List.replicate (gC l g l.length).length false)
    ⟨rfl, by simp; omega, fun j hj => by simp only [List.length_replicate]; exact (gI_mem (hget j hj)).1, fun j hj => by simp [List.getD_eq_getElem?_getD, List.getElem?_replicate]; split <;> split <;> rfl⟩
  apply eq_of_getD
  · rw [kp_len, gB_len, hlen]
  · intro j hj
    rw [kp_len, hlen, hm] at hj
    have h1 : j < (gI l g l.length).length := by omega
    have e1 : (gB l g (kpL l (lim2 bf x M)) l.length).getD j false = (kpL l (lim2 bf x M)).getD ((gI l g l.length).getD j 0) false := by
      unfold gB
      simp [h1]
    rw [e1]
    have e2 : (kpL l (lim2 bf x M)).getD ((gI l g l.length).getD j 0) false = (((ordL (pri (gC l g l.length)) (gC l g l.length).length).map fun j => (gI l g l.length).getD j 0).foldl (kst l (lim2 bf x M)) (0, List.replicate l.length false)).2.getD ((gI l g l.length).getD j 0) false := by
      unfold kpL kfo
      rw [hparts, List.foldl_append, rest_bits]
      intro y hy he
      have h2 := (List.mem_filter.1 hy).2
      rw [he, decide_eq_true (gI_mem (hget j hj)).2] at h2
      cases h2
    rw [e2]
    exact (hsim.bits j hj).symm
end Go.Proofs.Ytpablikcidlkaaa
