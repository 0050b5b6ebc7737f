import Derived.Test.YtolinnmhdclgpaaClb
import Derived.Test.YtolinnmhdclgpaaCk
import Derived.Deep.CutRange
namespace Go.Proofs.Ytolinnmhdclgpaa

theorem bit_add {D i : Nat} (h : D.testBit i = false) (j : Nat) : (D + 2 ^ i).testBit j = (D.testBit j || decide (j = i)) := by
  have hd : D = 2 ^ (i + 1) * (D / 2 ^ (i + 1)) + D % 2 ^ (i + 1) := (Nat.div_add_mod D (2 ^ (i + 1))).symm
  have hr : D % 2 ^ (i + 1) < 2 ^ i := by
    have h1 : (D % 2 ^ (i + 1)).testBit i = false := by rw [Nat.testBit_mod_two_pow, h]; simp
    have h2 : D % 2 ^ (i + 1) < 2 ^ (i + 1) := Nat.mod_lt _ (Nat.two_pow_pos _)
    refine Nat.lt_pow_two_of_testBit _ fun j hj => ?_
    by_cases e : j = i
    · subst e; exact h1
    · exact Nat.testBit_lt_two_pow (Nat.lt_of_lt_of_le h2 (Nat.pow_le_pow_right (by omega) (by omega)))
  have hr2 : D % 2 ^ (i + 1) + 2 ^ i < 2 ^ (i + 1) := by rw [Nat.pow_succ] at *; omega
  have hr3 : D % 2 ^ (i + 1) < 2 ^ (i + 1) := Nat.mod_lt _ (Nat.two_pow_pos _)
  generalize D / 2 ^ (i + 1) = q at *
  generalize D % 2 ^ (i + 1) = r at *
  subst hd
  rw [Nat.add_assoc, Nat.testBit_two_pow_mul_add _ hr2, Nat.testBit_two_pow_mul_add _ hr3]
  by_cases hj : j < i + 1
  · rw [if_pos hj, if_pos hj]
    by_cases e : j = i
    · subst e
      rw [Nat.add_comm r, Nat.testBit_two_pow_add_eq, Nat.testBit_lt_two_pow hr]; simp
    · rw [Nat.add_comm r, Nat.testBit_two_pow_add_gt (by omega)]; simp [e]
  · rw [if_neg hj, if_neg hj]
    have : j ≠ i := by omega
    simp [this]
/-- An order of a list that a device has executed. -/
def dn (L : List Od) (D : Nat) (o : Od) : Prop := ∃ k, k < L.length ∧ L.getD k zO = o ∧ D.testBit k = true
/-- A record survives what an order says. -/
def okq (r o : Od) : Prop := o.a < r.a + 16 ∧ o.b ≤ r.b
/-- The record that the device's value is of. -/
def Src (L : List Od) (D : Nat) (v : Int) (M : List Od) : Prop :=
  ∃ A r B, M = A ++ r :: B ∧ r.d = v ∧ (∀ o ∈ A, stB o = false → dn L D o → okq r o) ∧ ∀ o ∈ B, stB o = false → dn L D o → stB r = false ∧ okq r o
/-- An order that was not executed, and is believed not to be, can't be any more. -/
def Gone (L : List Od) (D : Nat) (c : Int) (M : List Od) : Prop :=
  ∀ j, j < L.length → L.getD j zO ∈ M ∨ D.testBit j = true ∨ (L.getD j zO).a ≤ c ∨ ∃ k, k < L.length ∧ blB L D j k = true
/-- What the runs keep. -/
structure Tr (L : List Od) (D : Nat) (v c : Int) (V : List Int) (M : List Od) : Prop where
  len : L.length ≤ 20
  bits : D < 2 ^ L.length
  vals : ∀ x ∈ L, isO x = true
  inc : ∀ i j, i < j → j < L.length → (L.getD i zO).a < (L.getD j zO).a
  cl : -1 ≤ c ∧ c ≤ 1000000000
  ok : isW V M = true
  fly : ∀ o ∈ M, stB o = false → o ∈ L
  gone : Gone L D c M
  set : ∀ o ∈ M, stB o = true → o.a ≤ tpf D L c L.length
  src : Src L D v M
theorem not_st {o : Od} (h : isO o = true) : stB o = false := by
  have := (isO_parts h).2.2.1
  cases hs : stB o with
  | false => rfl
  | true => have := stB_iff.1 hs; omega
theorem Tr.start {v : Int} (h : 0 ≤ v ∧ v < 16) : Tr [] 0 v (-1) [v] (bS (-1) v) := by
  refine ⟨by simp, by simp, fun x hx => (by cases hx), fun i j _ h => (by simp at h), by omega, bS_ok (by omega) h, fun o ho hs => ?_, fun j h => (by simp at h), fun o ho _ => ?_, ?_⟩
  · obtain rfl : o = ⟨-1, 0, -1, v⟩ := by simpa [bS] using ho
    exact absurd hs (by unfold stB; simp)
  · obtain rfl : o = ⟨-1, 0, -1, v⟩ := by simpa [bS] using ho
    exact Int.le_refl _
  · exact ⟨[], ⟨-1, 0, -1, v⟩, [], rfl, rfl, fun o ho => (by cases ho), fun o ho => (by cases ho)⟩
theorem Tr.can {L : List Od} {D : Nat} {v c : Int} {V : List Int} {M : List Od} (h : Tr L D v c V M) : V.contains v = true := by
  obtain ⟨-, -, hV⟩ := isW_len h.ok
  obtain ⟨A, r, B, rfl, rfl, -⟩ := h.src
  have hk := okR_d (((isW_iff _ _).1 h.ok).2.2.2.1 r (by simp))
  rw [List.contains_iff_mem, hV, (rvl_prop _).2]
  exact ⟨hk, r, by simp, rfl⟩
theorem getD_app {L : List Od} {x : Od} {i : Nat} (h : i < L.length) : (L ++ [x]).getD i zO = L.getD i zO := by
  rw [List.getD_eq_getElem?_getD, List.getD_eq_getElem?_getD, List.getElem?_append_left h]
theorem getD_last {L : List Od} {x : Od} : (L ++ [x]).getD L.length zO = x := by simp
theorem bit_ge {D n k : Nat} (h : D < 2 ^ n) (hk : n ≤ k) : D.testBit k = false := Nat.testBit_lt_two_pow (Nat.lt_of_lt_of_le h (Nat.pow_le_pow_right (by omega) hk))
theorem tpf_app {D : Nat} {L : List Od} {c : Int} {x : Od} (h : D < 2 ^ L.length) : tpf D (L ++ [x]) c (L ++ [x]).length = tpf D L c L.length := by
  rw [List.length_append, List.length_singleton, tpf_succ, if_neg (by rw [bit_ge h (Nat.le_refl _)]; exact Bool.false_ne_true)]
  have : ∀ n, n ≤ L.length → tpf D (L ++ [x]) c n = tpf D L c n := by
    intro n
    induction n with
    | zero => intro _; rfl
    | succ n ih => intro hn; rw [tpf_succ, tpf_succ, ih (by omega), getD_app (by omega)]
  exact this _ (Nat.le_refl _)
theorem dn_app {L : List Od} {D : Nat} {x o : Od} (hb : D < 2 ^ L.length) (h : dn (L ++ [x]) D o) : dn L D o := by
  obtain ⟨k, hk, ho, hd⟩ := h
  by_cases e : k < L.length
  · exact ⟨k, e, by rw [getD_app e] at ho; exact ho, hd⟩
  · rw [bit_ge hb (by omega)] at hd; cases hd
theorem blB_app {L : List Od} {D : Nat} {x : Od} {j k : Nat} (hj : j < L.length) (hk : k < L.length) (h : blB L D j k = true) : blB (L ++ [x]) D j k = true := by
  unfold blB at h ⊢; rw [getD_app hj, getD_app hk]; exact h
/-- An order is sent. -/
theorem Tr.sent {L : List Od} {D : Nat} {v c : Int} {V : List Int} {M : List Od} (h : Tr L D v c V M) {o : Od} (hl : L.length < 20) (hi : ∀ i, i < L.length → (L.getD i zO).a < o.a) (hs : sdE M o = 0) :
    Tr (L ++ [o]) D v c (rV 0 (M ++ [o])) (rM 0 (M ++ [o])) := by
  have hw := sent_ok h.ok hs
  have ho := (sdE_ok hs).1
  rw [rM_z] at hw ⊢
  obtain ⟨A, r, B, hM, hr, hA, hB⟩ := h.src
  refine ⟨by rw [List.length_append]; simp; omega, ?_, fun x hx => ?_, fun i j hij hj => ?_, h.cl, hw, fun x hx hst => ?_, fun j hj => ?_, fun x hx hst => ?_, ?_⟩
  · rw [List.length_append]; exact Nat.lt_of_lt_of_le h.bits (Nat.pow_le_pow_right (by omega) (by omega))
  · rcases List.mem_append.1 hx with hx | hx
    · exact h.vals x hx
    · obtain rfl : x = o := by simpa using hx
      exact ho
  · rw [List.length_append] at hj
    simp only [List.length_singleton] at hj
    by_cases e : j < L.length
    · rw [getD_app e, getD_app (by omega)]; exact h.inc i j hij e
    · obtain rfl : j = L.length := by omega
      rw [getD_last, getD_app hij]; exact hi i hij
  · rcases List.mem_append.1 hx with hx | hx
    · exact List.mem_append.2 (.inl (h.fly x hx hst))
    · exact List.mem_append.2 (.inr hx)
  · rw [List.length_append] at hj
    simp only [List.length_singleton] at hj
    by_cases e : j < L.length
    · rw [getD_app e]
      rcases h.gone j e with q | q | q | ⟨k, hk, q⟩
      · exact .inl (List.mem_append.2 (.inl q))
      · exact .inr (.inl q)
      · exact .inr (.inr (.inl q))
      · exact .inr (.inr (.inr ⟨k, by rw [List.length_append]; omega, blB_app e hk q⟩))
    · obtain rfl : j = L.length := by omega
      rw [getD_last]
      exact .inl (by simp)
  · rw [tpf_app h.bits]
    rcases List.mem_append.1 hx with hx | hx
    · exact h.set x hx hst
    · obtain rfl : x = o := by simpa using hx
      rw [not_st ho] at hst; cases hst
  · refine ⟨A, r, B ++ [o], by rw [hM]; simp, hr, fun x hx hst hd => hA x hx hst (dn_app h.bits hd), fun x hx hst hd => ?_⟩
    rcases List.mem_append.1 hx with hx | hx
    · exact hB x hx hst (dn_app h.bits hd)
    · obtain rfl : x = o := by simpa using hx
      obtain ⟨k, hk, hko, -⟩ := dn_app h.bits hd
      have := hi k hk
      rw [hko] at this
      omega
theorem pre_flt {M A B : List Od} {r : Od} (hM : M = A ++ r :: B) (hr : stB r = false) : flt M = flt A ++ r :: flt B := by
  rw [hM, flt_app]
  congr 1
  unfold flt
  rw [List.filter_cons, if_pos (by rw [hr]; rfl)]
theorem tpf_mono {D D' : Nat} {L : List Od} {c : Int} (h : ∀ j, D.testBit j = true → D'.testBit j = true) : tpf D L c L.length ≤ tpf D' L c L.length := by
  obtain ⟨h1, h2, -⟩ := tpf_prop D' L c L.length
  obtain ⟨-, -, h3⟩ := tpf_prop D L c L.length
  rcases h3 with h3 | ⟨i, hi, hd, h3⟩
  · rw [h3]; exact h1
  · rw [h3]; exact h2 i hi (h i hd)
/-- An order arrives. -/
theorem Tr.exec {L : List Od} {D : Nat} {v c : Int} {V : List Int} {M : List Od} (h : Tr L D v c V M) {i : Nat} (hi : i < L.length) : Tr L (exD (exB L D c i) D i) (exV (exB L D c i) L i v) c V M := by
  cases hx : exB L D c i
  · exact h
  · unfold exD exV
    rw [if_pos rfl, if_pos rfl]
    have hx' := hx
    unfold exB at hx'
    simp only [Bool.and_eq_true, Bool.not_eq_true', decide_eq_true_eq, List.all_eq_true, List.mem_range] at hx'
    obtain ⟨⟨h1, h2⟩, h3⟩ := hx'
    have hbit := bit_add h1
    have hmono : ∀ j, D.testBit j = true → (D + 2 ^ i).testBit j = true := fun j hj => by rw [hbit, hj]; rfl
    have hin : L.getD i zO ∈ M := by
      rcases h.gone i hi with q | q | q | ⟨k, hk, q⟩
      · exact q
      · rw [h1] at q; cases q
      · omega
      · rw [h3 k hk] at q; cases q
    have hst := not_st (h.vals _ (getD_mem hi))
    refine ⟨h.len, ?_, h.vals, h.inc, h.cl, h.ok, h.fly, fun j hj => ?_, fun o ho hs => Int.le_trans (h.set o ho hs) (tpf_mono hmono), ?_⟩
    · refine Nat.lt_pow_two_of_testBit _ fun j hj => ?_
      rw [hbit, bit_ge h.bits hj]
      simp
      omega
    · rcases h.gone j hj with q | q | q | ⟨k, hk, q⟩
      · exact .inl q
      · exact .inr (.inl (hmono j q))
      · exact .inr (.inr (.inl q))
      · refine .inr (.inr (.inr ⟨k, hk, ?_⟩))
        unfold blB at q ⊢
        rw [Bool.and_eq_true] at q ⊢
        exact ⟨hmono k q.1, q.2⟩
    · obtain ⟨A, B, hM⟩ := List.append_of_mem hin
      have hpw := ((isW_iff V M).1 h.ok).2.2.2.2.1
      rw [pre_flt hM hst, List.pairwise_append] at hpw
      obtain ⟨-, hp2, hp3⟩ := hpw
      rw [List.pairwise_cons] at hp2
      have key : ∀ o, stB o = false → o ≠ L.getD i zO → dn L (D + 2 ^ i) o → okq (L.getD i zO) o := by
        intro o hso hne hdn
        obtain ⟨k, hk, rfl, hd⟩ := hdn
        have hki : k ≠ i := fun e => hne (by rw [e])
        rw [hbit] at hd
        have hdk : D.testBit k = true := by simpa [hki] using hd
        have hb := h3 k hk
        unfold blB at hb
        rw [hdk] at hb
        simp only [Bool.true_and, Bool.or_eq_false_iff, decide_eq_false_iff_not] at hb
        exact ⟨by omega, by omega⟩
      refine ⟨A, L.getD i zO, B, hM, rfl, fun o ho hso hdn => key o hso (fun e => ?_) hdn, fun o ho hso hdn => ⟨hst, key o hso (fun e => ?_) hdn⟩⟩
      · have := (hp3 o (flt_mem.2 ⟨ho, hso⟩) (L.getD i zO) List.mem_cons_self).1
        rw [e] at this; omega
      · have := (hp2.1 o (flt_mem.2 ⟨ho, hso⟩)).1
        rw [e] at this; omega
theorem inc_inj {L : List Od} (h : ∀ i j, i < j → j < L.length → (L.getD i zO).a < (L.getD j zO).a) {i j : Nat} (hi : i < L.length) (hj : j < L.length) (e : (L.getD i zO).a = (L.getD j zO).a) : i = j := by
  rcases Nat.lt_trichotomy i j with q | q | q
  · have := h i j q hj; omega
  · exact q
  · have := h j i q hi; omega
theorem mem_get {L : List Od} {o : Od} (h : o ∈ L) : ∃ k, k < L.length ∧ L.getD k zO = o := by
  obtain ⟨k, hk, e⟩ := List.getElem_of_mem h
  exact ⟨k, hk, by simp [hk, e]⟩
theorem take_split {M : List Od} {i : Nat} (h : i < M.length) : M = M.take i ++ M.getD i zO :: M.drop (i + 1) := by
  rw [← od_drop h, List.take_append_drop]
theorem cfS_iff {o x : Od} : cfS o x = true ↔ okq x o := by
  unfold cfS okq
  rw [Bool.and_eq_true, decide_eq_true_eq, decide_eq_true_eq]
  constructor
  · rintro ⟨h1, h2⟩; exact ⟨by omega, h2⟩
  · rintro ⟨h1, h2⟩; exact ⟨by omega, h2⟩
/-- Two ways of parting a list. -/
theorem two_parts {X Y A B : List Od} {o r : Od} (h : X ++ o :: Y = A ++ r :: B) :
    (X = A ∧ o = r ∧ Y = B) ∨ (∃ C, A = X ++ o :: C ∧ Y = C ++ r :: B) ∨ ∃ C, X = A ++ r :: C ∧ B = C ++ o :: Y := by
  rcases List.append_eq_append_iff.1 h with ⟨C, h1, h2⟩ | ⟨C, h1, h2⟩
  · cases C with
    | nil =>
      simp only [List.append_nil, List.nil_append, List.cons.injEq] at h1 h2
      exact .inl ⟨h1.symm, h2.1, h2.2⟩
    | cons y C =>
      simp only [List.cons_append, List.cons.injEq] at h2
      exact .inr (.inl ⟨C, by rw [h1, h2.1], h2.2⟩)
  · cases C with
    | nil =>
      simp only [List.append_nil, List.nil_append, List.cons.injEq] at h1 h2
      exact .inl ⟨h1, h2.1.symm, h2.2.symm⟩
    | cons y C =>
      simp only [List.cons_append, List.cons.injEq] at h2
      exact .inr (.inr ⟨C, by rw [h1, h2.1], h2.2⟩)
theorem gone_conf {L : List Od} {D : Nat} {v c : Int} {V : List Int} {M : List Od} (h : Tr L D v c V M) {k i : Nat} (hk : k < L.length) (hd : D.testBit k = true) (hi : i < M.length) (ho : M.getD i zO = L.getD k zO) : Gone L D c (cfO M i) := by
  intro j hj
  rcases h.gone j hj with q | q | q | q
  · by_cases hjk : j = k
    · subst hjk; exact .inr (.inl hd)
    · by_cases hs : okq (L.getD j zO) (L.getD k zO)
      · left
        unfold cfO
        refine List.mem_append.2 (.inl (List.mem_filter.2 ⟨?_, by rw [ho]; exact cfS_iff.2 hs⟩))
        have hst := not_st (h.vals _ (getD_mem hj))
        rw [take_split hi] at q
        rcases List.mem_append.1 q with q | q
        · exact List.mem_append.2 (.inl (flt_mem.2 ⟨q, hst⟩))
        · rcases List.mem_cons.1 q with e | q
          · rw [ho] at e
            exact absurd (inc_inj h.inc hj hk (by rw [e])) hjk
          · exact List.mem_append.2 (.inr q)
      · refine .inr (.inr (.inr ⟨k, hk, ?_⟩))
        unfold blB
        rw [hd]
        unfold okq at hs
        simp only [Bool.true_and, Bool.or_eq_true, decide_eq_true_eq]
        omega
  · exact .inr (.inl q)
  · exact .inr (.inr (.inl q))
  · exact .inr (.inr (.inr q))
/-- A confirmation arrives of an order that was executed. -/
theorem Tr.conf {L : List Od} {D : Nat} {v c : Int} {V : List Int} {M : List Od} (h : Tr L D v c V M) {k : Nat} (hk : k < L.length) (hd : D.testBit k = true) (hs : cfE (L.getD k zO).a M = 0) :
    Tr L D v c (rV 0 (cfM (L.getD k zO).a M)) (rM 0 (cfM (L.getD k zO).a M)) := by
  have hw := conf_ok h.ok hs
  rw [rM_z] at hw ⊢
  obtain ⟨i, -, hi, hp, hm⟩ := cf_some hs
  have hfl : stB (M.getD i zO) = false ∧ (M.getD i zO).a = (L.getD k zO).a := by
    unfold cfP at hp
    rw [Bool.and_eq_true, decide_eq_true_eq] at hp
    exact ⟨by simpa using hp.1, hp.2⟩
  have ho : M.getD i zO = L.getD k zO := by
    obtain ⟨k', hk', e⟩ := mem_get (h.fly _ (getD_mem hi) hfl.1)
    have : k' = k := inc_inj h.inc hk' hk (by rw [e]; exact hfl.2)
    rw [← e, this]
  have hgone := gone_conf h hk hd hi ho
  have hdn : dn L D (M.getD i zO) := ⟨k, hk, ho.symm, hd⟩
  have hsp := take_split hi
  have hcf : cfO M i = (flt (M.take i) ++ M.drop (i + 1)).filter (cfS (M.getD i zO)) ++ [{ M.getD i zO with c := -1 }] := rfl
  rw [hm] at hw ⊢
  generalize M.take i = X at *
  generalize M.drop (i + 1) = Y at *
  have hoa : (M.getD i zO).a ≤ tpf D L c L.length := by rw [ho]; exact (tpf_prop D L c L.length).2.1 k hk hd
  generalize M.getD i zO = o at *
  have hst : stB ({ o with c := -1 } : Od) = true := stB_iff.2 rfl
  have hsub : ∀ x ∈ (flt X ++ Y).filter (cfS o), x ∈ M := fun x hx => by
    rw [hsp]
    rcases List.mem_append.1 (List.mem_filter.1 hx).1 with q | q
    · exact List.mem_append.2 (.inl (flt_mem.1 q).1)
    · exact List.mem_append.2 (.inr (List.mem_cons_of_mem _ q))
  refine ⟨h.len, h.bits, h.vals, h.inc, h.cl, hw, fun x hx hxs => ?_, hgone, fun x hx hxs => ?_, ?_⟩
  · rw [hcf] at hx
    rcases List.mem_append.1 hx with q | q
    · exact h.fly x (hsub x q) hxs
    · obtain rfl : x = { o with c := -1 } := by simpa using q
      rw [hst] at hxs; cases hxs
  · rw [hcf] at hx
    rcases List.mem_append.1 hx with q | q
    · exact h.set x (hsub x q) hxs
    · obtain rfl : x = { o with c := -1 } := by simpa using q
      exact hoa
  · obtain ⟨A, r, B, hM, hr, hA, hB⟩ := h.src
    rw [hcf]
    rw [hM] at hsp
    rcases two_parts hsp.symm with ⟨rfl, rfl, rfl⟩ | ⟨C, rfl, rfl⟩ | ⟨C, rfl, rfl⟩
    · refine ⟨_, { o with c := -1 }, [], rfl, hr, fun x hx hxs hxd => ?_, fun x hx => (by cases hx)⟩
      rcases List.mem_append.1 (List.mem_filter.1 hx).1 with q | q
      · exact hA x (flt_mem.1 q).1 hxs hxd
      · exact (hB x q hxs hxd).2
    · have hok := hA o (by simp) hfl.1 hdn
      refine ⟨(flt X ++ C).filter (cfS o), r, B.filter (cfS o) ++ [{ o with c := -1 }], ?_, hr, fun x hx hxs hxd => ?_, fun x hx hxs hxd => ?_⟩
      · rw [← List.append_assoc, List.filter_append, List.filter_cons, if_pos (cfS_iff.2 hok)]; simp
      · rcases List.mem_append.1 (List.mem_filter.1 hx).1 with q | q
        · exact hA x (List.mem_append.2 (.inl (flt_mem.1 q).1)) hxs hxd
        · exact hA x (List.mem_append.2 (.inr (List.mem_cons_of_mem _ q))) hxs hxd
      · rcases List.mem_append.1 hx with q | q
        · exact hB x (List.mem_filter.1 q).1 hxs hxd
        · obtain rfl : x = { o with c := -1 } := by simpa using q
          rw [hst] at hxs; cases hxs
    · obtain ⟨hrs, hok⟩ := hB o (by simp) hfl.1 hdn
      refine ⟨(flt A).filter (cfS o), r, (flt C ++ Y).filter (cfS o) ++ [{ o with c := -1 }], ?_, hr, fun x hx hxs hxd => ?_, fun x hx hxs hxd => ?_⟩
      · rw [pre_flt rfl hrs]
        simp only [List.append_assoc, List.cons_append, List.filter_append, List.filter_cons, if_pos (cfS_iff.2 hok)]
      · exact hA x (flt_mem.1 (List.mem_filter.1 hx).1).1 hxs hxd
      · rcases List.mem_append.1 hx with q | q
        · rcases List.mem_append.1 (List.mem_filter.1 q).1 with q | q
          · exact hB x (List.mem_append.2 (.inl (flt_mem.1 q).1)) hxs hxd
          · exact hB x (List.mem_append.2 (.inr (List.mem_cons_of_mem _ q))) hxs hxd
        · obtain rfl : x = { o with c := -1 } := by simpa using q
          rw [hst] at hxs; cases hxs
/-- The device reports. -/
theorem Tr.rep {L : List Od} {D : Nat} {v c : Int} {V : List Int} {M : List Od} (h : Tr L D v c V M) : rpE V M v (tpf D L c L.length) = 0 ∧
    Tr L D v (tpf D L c L.length) (rV 0 (rpM M v (tpf D L c L.length))) (rM 0 (rpM M v (tpf D L c L.length))) := by
  obtain ⟨t1, t2, t3⟩ := tpf_prop D L c L.length
  have hcan := h.can
  have hset := h.set
  generalize tpf D L c L.length = T at *
  have hcl := h.cl
  have hT : -1 ≤ T ∧ T ≤ 1000000000 := by
    rcases t3 with e | ⟨i, hi, -, e⟩
    · omega
    · have := (isO_parts (h.vals _ (getD_mem hi))).1; omega
  have hE : rpE V M v T = 0 := by
    unfold rpE
    rw [if_neg (by rw [inr_iff.2 hT]; simp), if_neg]
    simp only [Bool.or_eq_true, not_or, Bool.not_eq_true', Bool.not_eq_false, List.any_eq_true, not_exists, not_and]
    refine ⟨hcan, fun x hx => ?_⟩
    obtain ⟨h1, h2⟩ := List.mem_filter.1 hx
    have := hset x h1 h2
    unfold rpT
    simp only [decide_eq_true_eq]
    omega
  have hw := rep_ok h.ok hE
  rw [rM_z] at hw ⊢
  have hst : stB ⟨T, rpB T M, -1, v⟩ = true := stB_iff.2 rfl
  have htp : tpf D L T L.length = T := by
    obtain ⟨u1, u2, u3⟩ := tpf_prop D L T L.length
    rcases u3 with e | ⟨i, hi, hd, e⟩
    · exact e
    · have := t2 i hi hd; omega
  have hmem : ∀ x ∈ (flt M).filter (rpT T), x ∈ M ∧ stB x = false ∧ T < x.a := fun x hx => by
    obtain ⟨h1, h2⟩ := List.mem_filter.1 hx
    obtain ⟨h3, h4⟩ := flt_mem.1 h1
    exact ⟨h3, h4, by unfold rpT at h2; exact of_decide_eq_true h2⟩
  refine ⟨hE, h.len, h.bits, h.vals, h.inc, hT, hw, fun x hx hxs => ?_, fun j hj => ?_, fun x hx hxs => ?_, ?_⟩
  · unfold rpM at hx
    rcases List.mem_cons.1 hx with rfl | hx
    · rw [hst] at hxs; cases hxs
    · exact h.fly x (hmem x hx).1 hxs
  · rcases h.gone j hj with q | q | q | q
    · by_cases hjt : (L.getD j zO).a ≤ T
      · exact .inr (.inr (.inl hjt))
      · left
        unfold rpM
        refine List.mem_cons_of_mem _ (List.mem_filter.2 ⟨flt_mem.2 ⟨q, not_st (h.vals _ (getD_mem hj))⟩, ?_⟩)
        unfold rpT; exact decide_eq_true (by omega)
    · exact .inr (.inl q)
    · exact .inr (.inr (.inl (by omega)))
    · exact .inr (.inr (.inr q))
  · rw [htp]
    unfold rpM at hx
    rcases List.mem_cons.1 hx with rfl | hx
    · exact Int.le_refl _
    · rw [(hmem x hx).2.1] at hxs; cases hxs
  · refine ⟨[], ⟨T, rpB T M, -1, v⟩, (flt M).filter (rpT T), rfl, rfl, fun x hx => (by cases hx), fun x hx hxs hxd => ?_⟩
    obtain ⟨k, hk, e, hd⟩ := hxd
    have h1 := t2 k hk hd
    rw [e] at h1
    have := (hmem x hx).2.2
    omega

/-- A state of the device. -/
structure Wo where
  v : Int
  D : Nat
  c : Int
deriving DecidableEq
/-- A state in which an order was executed. -/
def exW (L : List Od) (x : Wo) (i : Nat) : Wo := ⟨(L.getD i zO).d, x.D + 2 ^ i, x.c⟩
/-- A list of states is closed. -/
def Clo (L : List Od) (all : List Wo) : Prop := ∀ x ∈ all, ∀ i, i < L.length → exB L x.D x.c i = true → exW L x i ∈ all
/-- What can follow a state. -/
inductive Rch (L : List Od) (y : Wo) : Wo → Prop
  | refl : Rch L y y
  | step {x : Wo} {i : Nat} (h : Rch L y x) (hi : i < L.length) (hx : exB L x.D x.c i = true) : Rch L y (exW L x i)
/-- Some of the orders in flight. -/
def Fly (M : List Od) (X : Od → Prop) : Prop := ∀ o, X o → o ∈ M ∧ stB o = false
/-- Which orders were executed: of those in flight the ones of X, of the others those of D0. -/
def Bits (L M : List Od) (X : Od → Prop) (D0 D : Nat) : Prop :=
  ∀ k, k < L.length → (D.testBit k = true ↔ (L.getD k zO ∈ M ∧ X (L.getD k zO)) ∨ (L.getD k zO ∉ M ∧ D0.testBit k = true))
/-- Each record can be the last one, behind any orders that it survives. -/
def CmpT (L : List Od) (all R : List Wo) (M : List Od) : Prop :=
  ∀ x0 ∈ all, ∀ A r B, M = A ++ r :: B → ∀ X : Od → Prop, Fly M X → (stB r = false → X r) → (∀ o ∈ A, X o → okq r o) → (∀ o ∈ B, X o → stB r = false ∧ okq r o) → ∃ x ∈ R, x.v = r.d ∧ Bits L M X x0.D x.D
/-- What the states and the belief keep. -/
structure Inv (L : List Od) (all : List Wo) (V : List Int) (M : List Od) (c : Int) : Prop where
  tr : ∀ x ∈ all, Tr L x.D x.v x.c V M
  cc : ∀ x ∈ all, x.c = c
  ne : ∃ x, x ∈ all
  clo : Clo L all
  mon : ∀ i j, i < j → j < L.length → (L.getD i zO).b ≤ (L.getD j zO).b
  fre : ∀ j, j < L.length → L.getD j zO ∉ M → ∀ r ∈ M, stB r = false → okq r (L.getD j zO)
  abv : ∀ o ∈ M, stB o = false → c < o.a
  cmp : CmpT L all all M
theorem okq_self (o : Od) : okq o o := ⟨by omega, Int.le_refl _⟩
theorem okq_le {x y : Od} (h : y.a ≤ x.a) (h2 : y.b ≤ x.b) : okq x y := ⟨by omega, h2⟩
theorem okq_tr {x y z : Od} (h : okq x y) (h1 : z.a ≤ y.a) (h2 : z.b ≤ y.b) : okq x z := ⟨by have := h.1; omega, by have := h.2; omega⟩
theorem clo_step {L : List Od} {R : List Wo} (hc : Clo L R) {x : Wo} (hx : x ∈ R) {i : Nat} (hi : i < L.length) (hb : x.D.testBit i = false) (ha : x.c < (L.getD i zO).a) (hk : ∀ k, k < L.length → x.D.testBit k = true → okq (L.getD i zO) (L.getD k zO)) : exW L x i ∈ R := by
  refine hc x hx i hi (exB_ok hb ha fun k hkl => ?_)
  unfold blB
  cases hd : x.D.testBit k
  · rfl
  · obtain ⟨h1, h2⟩ := hk k hkl hd
    simp only [Bool.true_and, Bool.or_eq_false_iff, decide_eq_false_iff_not]
    omega
theorem exW_bit {L : List Od} {x : Wo} {i : Nat} (h : x.D.testBit i = false) (k : Nat) : (exW L x i).D.testBit k = true ↔ x.D.testBit k = true ∨ k = i := by
  have e : (exW L x i).D = x.D + 2 ^ i := rfl
  rw [e, bit_add h, Bool.or_eq_true, decide_eq_true_eq]
theorem exB_parts {L : List Od} {D : Nat} {c : Int} {i : Nat} (h : exB L D c i = true) : D.testBit i = false ∧ c < (L.getD i zO).a ∧ ∀ k, k < L.length → blB L D i k = false := by
  unfold exB at h
  simp only [Bool.and_eq_true, Bool.not_eq_true', decide_eq_true_eq, List.all_eq_true, List.mem_range] at h
  exact ⟨h.1.1, h.1.2, h.2⟩
theorem Tr.here {L : List Od} {D : Nat} {v c : Int} {V : List Int} {M : List Od} (h : Tr L D v c V M) {i : Nat} (hi : i < L.length) (hx : exB L D c i = true) : L.getD i zO ∈ M := by
  obtain ⟨h1, h2, h3⟩ := exB_parts hx
  rcases h.gone i hi with q | q | q | ⟨k, hk, q⟩
  · exact q
  · rw [h1] at q; cases q
  · omega
  · rw [h3 k hk] at q; cases q
theorem Tr.exW {L : List Od} {x : Wo} {V : List Int} {M : List Od} (h : Tr L x.D x.v x.c V M) {i : Nat} (hi : i < L.length) (hx : exB L x.D x.c i = true) : Tr L (exW L x i).D (exW L x i).v (exW L x i).c V M := by
  have := h.exec hi
  rw [hx] at this
  exact this
theorem rch_tr {L : List Od} {V : List Int} {M : List Od} {y x : Wo} (h : Rch L y x) (ht : Tr L y.D y.v y.c V M) : Tr L x.D x.v x.c V M ∧ x.c = y.c ∧ ∀ k, k < L.length → L.getD k zO ∉ M → x.D.testBit k = y.D.testBit k := by
  induction h with
  | refl => exact ⟨ht, rfl, fun _ _ _ => rfl⟩
  | @step x i h hi hx ih =>
    obtain ⟨h1, h2, h3⟩ := ih
    refine ⟨h1.exW hi hx, h2, fun k hk hm => ?_⟩
    rw [← h3 k hk hm]
    have hin := h1.here hi hx
    have hne : k ≠ i := fun e => hm (by rw [e]; exact hin)
    rw [Bool.eq_iff_iff, exW_bit (exB_parts hx).1]
    simp [hne]
theorem Inv.close {L : List Od} {all R : List Wo} {V : List Int} {M : List Od} {c : Int} (tr : ∀ x ∈ all, Tr L x.D x.v x.c V M) (cc : ∀ x ∈ all, x.c = c) (ne : ∃ x, x ∈ all)
    (mon : ∀ i j, i < j → j < L.length → (L.getD i zO).b ≤ (L.getD j zO).b) (fre : ∀ j, j < L.length → L.getD j zO ∉ M → ∀ r ∈ M, stB r = false → okq r (L.getD j zO)) (abv : ∀ o ∈ M, stB o = false → c < o.a)
    (hsub : ∀ x ∈ all, x ∈ R) (hclo : Clo L R) (hr : ∀ x ∈ R, ∃ y ∈ all, Rch L y x) (cmp : CmpT L all R M) : Inv L R V M c := by
  refine ⟨fun x hx => ?_, fun x hx => ?_, ?_, hclo, mon, fre, abv, fun x0 hx0 A r B hM X hX hr1 hA hB => ?_⟩
  · obtain ⟨y, hy, h⟩ := hr x hx
    exact (rch_tr h (tr y hy)).1
  · obtain ⟨y, hy, h⟩ := hr x hx
    exact (rch_tr h (tr y hy)).2.1.trans (cc y hy)
  · obtain ⟨x, hx⟩ := ne
    exact ⟨x, hsub x hx⟩
  · obtain ⟨y, hy, h⟩ := hr x0 hx0
    obtain ⟨x, hx, hv, hb⟩ := cmp y hy A r B hM X hX hr1 hA hB
    refine ⟨x, hx, hv, fun k hk => (hb k hk).trans (or_congr Iff.rfl (and_congr_right fun hm => ?_))⟩
    rw [(rch_tr h (tr y hy)).2.2 k hk hm]
section
variable {L : List Od} {all : List Wo} {V : List Int} {M : List Od} {c : Int}
theorem Inv.tr1 (h : Inv L all V M c) : ∃ D v c, Tr L D v c V M := by
  obtain ⟨x, hx⟩ := h.ne
  exact ⟨_, _, _, h.tr x hx⟩
theorem Inv.inc (h : Inv L all V M c) : ∀ i j, i < j → j < L.length → (L.getD i zO).a < (L.getD j zO).a := by
  obtain ⟨_, _, _, t⟩ := h.tr1; exact t.inc
theorem Inv.ok (h : Inv L all V M c) : isW V M = true := by
  obtain ⟨_, _, _, t⟩ := h.tr1; exact t.ok
theorem Inv.fly (h : Inv L all V M c) : ∀ o ∈ M, stB o = false → o ∈ L := by
  obtain ⟨_, _, _, t⟩ := h.tr1; exact t.fly
theorem Inv.vals (h : Inv L all V M c) : ∀ x ∈ L, isO x = true := by
  obtain ⟨_, _, _, t⟩ := h.tr1; exact t.vals
theorem Inv.le (h : Inv L all V M c) {x y : Od} (hx : x ∈ L) (hy : y ∈ L) (hle : y.a ≤ x.a) : y.b ≤ x.b := by
  obtain ⟨i, hi, rfl⟩ := mem_get hx
  obtain ⟨j, hj, rfl⟩ := mem_get hy
  rcases Nat.lt_trichotomy i j with q | q | q
  · have := h.inc i j q hj; omega
  · rw [q]; exact Int.le_refl _
  · exact h.mon j i q hi
theorem Inv.ord (h : Inv L all V M c) {x y : Od} (hx : x ∈ L) (hy : y ∈ L) (hn : ¬ okq x y) : x.a < y.a ∧ x.b ≤ y.b := by
  have h1 : x.a < y.a := by
    by_cases e : y.a ≤ x.a
    · exact absurd (okq_le e (h.le hx hy e)) hn
    · omega
  exact ⟨h1, h.le hy hx (by omega)⟩
theorem max_of (M : List Od) (P : Od → Prop) : (∃ o, o ∈ M ∧ P o) → ∃ r, r ∈ M ∧ P r ∧ ∀ o ∈ M, P o → o.a ≤ r.a := by
  induction M with
  | nil => rintro ⟨o, ho, -⟩; cases ho
  | cons y M ih =>
    rintro ⟨o, ho, hp⟩
    by_cases hM : ∃ o, o ∈ M ∧ P o
    · obtain ⟨r, hr, hpr, hmax⟩ := ih hM
      by_cases hy : P y ∧ r.a < y.a
      · refine ⟨y, by simp, hy.1, fun z hz hpz => ?_⟩
        rcases List.mem_cons.1 hz with rfl | hz
        · exact Int.le_refl _
        · have := hmax z hz hpz; have := hy.2; omega
      · refine ⟨r, by simp [hr], hpr, fun z hz hpz => ?_⟩
        rcases List.mem_cons.1 hz with rfl | hz
        · by_cases e : r.a < z.a
          · exact absurd ⟨hpz, e⟩ hy
          · omega
        · exact hmax z hz hpz
    · rcases List.mem_cons.1 ho with rfl | ho
      · refine ⟨o, by simp, hp, fun z hz hpz => ?_⟩
        rcases List.mem_cons.1 hz with rfl | hz
        · exact Int.le_refl _
        · exact absurd ⟨z, hz, hpz⟩ hM
      · exact absurd ⟨o, ho, hp⟩ hM
/-- Any orders in flight can have been executed. -/
theorem Inv.base (h : Inv L all V M c) {x0 : Wo} (h0 : x0 ∈ all) {X : Od → Prop} (hX : Fly M X) : ∃ x ∈ all, Bits L M X x0.D x.D := by
  by_cases he : ∃ o, o ∈ M ∧ X o
  · obtain ⟨r, hr, hp, hmax⟩ := max_of M X he
    obtain ⟨A, B, hM⟩ := List.append_of_mem hr
    have hrs := (hX r hp).2
    have key : ∀ o ∈ M, X o → okq r o := fun o ho hxo => okq_le (hmax o ho hxo) (h.le (h.fly r hr hrs) (h.fly o ho (hX o hxo).2) (hmax o ho hxo))
    obtain ⟨x, hx, -, hb⟩ := h.cmp x0 h0 A r B hM X hX (fun _ => hp) (fun o ho => key o (by rw [hM]; simp [ho])) (fun o ho hxo => ⟨hrs, key o (by rw [hM]; simp [ho]) hxo⟩)
    exact ⟨x, hx, hb⟩
  · have hn : ∀ o, ¬ X o := fun o ho => he ⟨o, (hX o ho).1, ho⟩
    obtain ⟨r, hr, hrs⟩ := ((isW_iff V M).1 h.ok).2.2.1
    obtain ⟨A, B, hM⟩ := List.append_of_mem hr
    obtain ⟨x, hx, -, hb⟩ := h.cmp x0 h0 A r B hM X hX (fun q => by rw [hrs] at q; cases q) (fun o _ q => absurd q (hn o)) (fun o _ q => absurd q (hn o))
    exact ⟨x, hx, hb⟩
theorem Inv.bits (h : Inv L all V M c) {x : Wo} (hx : x ∈ all) {k : Nat} (hk : L.length ≤ k) : x.D.testBit k = false := bit_ge (h.tr x hx).bits hk
/-- An order is sent. -/
theorem Inv.sent (h : Inv L all V M c) {o : Od} (hl : L.length < 20) (hi : ∀ i, i < L.length → (L.getD i zO).a < o.a) (hib : ∀ i, i < L.length → (L.getD i zO).b ≤ o.b) (hc : c < o.a) (hs : sdE M o = 0) {R : List Wo} (hsub : ∀ x ∈ all, x ∈ R) (hclo : Clo (L ++ [o]) R) (hr : ∀ x ∈ R, ∃ y ∈ all, Rch (L ++ [o]) y x) :
    Inv (L ++ [o]) R (rV 0 (M ++ [o])) (rM 0 (M ++ [o])) c := by
  have tr := fun x hx => (h.tr x hx).sent hl hi hs
  rw [rM_z] at tr ⊢
  have hso := sdE_ok hs
  have hst := not_st hso.1
  have hoM : o ∉ M := fun q => by have := (hso.2.1 o q).1; omega
  have hlen : (L ++ [o]).length = L.length + 1 := by simp
  have hLM : ∀ k, k < L.length → (L.getD k zO ∈ M ++ [o] ↔ L.getD k zO ∈ M) := fun k hk => by
    rw [List.mem_append]
    refine ⟨fun q => q.elim id fun q => ?_, .inl⟩
    have e : L.getD k zO = o := by simpa using q
    have := hi k hk
    rw [e] at this
    omega
  have oko : ∀ k, k < L.length → okq o (L.getD k zO) := fun k hk => okq_le (by have := hi k hk; omega) (hib k hk)
  -- a state with the order executed last
  have sendo : ∀ x ∈ all, exW (L ++ [o]) x L.length ∈ R := fun x hx => by
    refine clo_step hclo (hsub x hx) (by rw [hlen]; omega) (h.bits hx (Nat.le_refl _)) (by rw [getD_last, h.cc x hx]; exact hc) fun k hk hd => ?_
    have hk' : k < L.length := by
      rcases Nat.lt_or_ge k L.length with q | q
      · exact q
      · rw [h.bits hx q] at hd; cases hd
    rw [getD_last, getD_app hk']
    exact oko k hk'
  refine Inv.close tr h.cc h.ne (fun i j hij hj => ?_) (fun j hj hm r hrm hrs => ?_) (fun x hx hxs => ?_) hsub hclo hr fun y hy A r B hM X hX hrX hA hB => ?_
  · rw [hlen] at hj
    by_cases e : j < L.length
    · rw [getD_app e, getD_app (by omega)]; exact h.mon i j hij e
    · obtain rfl : j = L.length := by omega
      rw [getD_last, getD_app hij]; exact hib i hij
  · rw [hlen] at hj
    by_cases e : j < L.length
    · rw [getD_app e] at hm ⊢
      rw [hLM j e] at hm
      rcases List.mem_append.1 hrm with q | q
      · exact h.fre j e hm r q hrs
      · obtain rfl : r = o := by simpa using q
        exact oko j e
    · obtain rfl : j = L.length := by omega
      rw [getD_last] at hm
      exact absurd (by simp) hm
  · rcases List.mem_append.1 hx with q | q
    · exact h.abv x q hxs
    · obtain rfl : x = o := by simpa using q
      exact hc
  · -- what the orders before do
    have fly' : ∀ P : Od → Prop, Fly M fun x => x ∈ M ∧ X x ∧ P x := fun P x q => ⟨q.1, (hX x q.2.1).2⟩
    have bits' : ∀ x : Wo, x ∈ all → Bits L M (fun z => z ∈ M ∧ X z ∧ True) y.D x.D → ∀ k, k < L.length → (x.D.testBit k = true ↔ (L.getD k zO ∈ M ∧ X (L.getD k zO)) ∨ (L.getD k zO ∉ M ∧ y.D.testBit k = true)) := fun x _ hb k hk => by
      refine (hb k hk).trans (or_congr ⟨fun q => ⟨q.1, q.2.2.1⟩, fun q => ⟨q.1, q.1, q.2, trivial⟩⟩ Iff.rfl)
    by_cases ho : X o
    · rcases List.eq_nil_or_concat B with hBn | ⟨B2, b, hBn⟩
      · -- the order is the last one
        subst hBn
        obtain ⟨rfl, e⟩ : M = A ∧ o = r := by
          have := List.append_inj' hM (by simp)
          exact ⟨this.1, by simpa using this.2⟩
        subst e
        obtain ⟨x, hx, hb⟩ := h.base hy (fly' fun _ => True)
        have hb := bits' x hx hb
        refine ⟨_, sendo x hx, by unfold exW; rw [getD_last], fun k hk => ?_⟩
        rw [exW_bit (h.bits hx (Nat.le_refl _))]
        rw [hlen] at hk
        by_cases e : k < L.length
        · rw [getD_app e, hLM k e]
          exact ⟨fun q => q.elim (hb k e).1 (fun q => absurd q (by omega)), fun q => .inl ((hb k e).2 q)⟩
        · obtain rfl : k = L.length := by omega
          rw [getD_last]
          exact ⟨fun _ => .inl ⟨by simp, ho⟩, fun _ => .inr rfl⟩
      · -- another one comes behind it
        rw [List.concat_eq_append] at hBn
        subst hBn
        have hM2 : M ++ [o] = (A ++ r :: B2) ++ [b] := by rw [hM]; simp
        obtain ⟨hM3, e⟩ : M = A ++ r :: B2 ∧ o = b := by
          have := List.append_inj' hM2 (by simp)
          exact ⟨this.1, by simpa using this.2⟩
        subst e
        obtain ⟨hrs, hro⟩ := hB o (by simp) ho
        have hrM : r ∈ M := by rw [hM3]; simp
        have hXr := hrX hrs
        obtain ⟨i, hil, hir⟩ := mem_get (h.fly r hrM hrs)
        have okX : ∀ z ∈ M, X z → okq r z := fun z hz hxz => by
          rw [hM3] at hz
          rcases List.mem_append.1 hz with q | q
          · exact hA z q hxz
          · rcases List.mem_cons.1 q with rfl | q
            · exact okq_self _
            · exact (hB z (by simp [q]) hxz).2
        obtain ⟨x, hx, hb⟩ := h.base hy (fly' fun z => z ≠ r)
        have hbr : ∀ k, k < L.length → (x.D.testBit k = true → okq r (L.getD k zO)) := fun k hk hd => by
          rcases (hb k hk).1 hd with q | q
          · exact okX _ q.1 q.2.2.1
          · exact h.fre k hk q.1 r hrM hrs
        have hbi : x.D.testBit i = false := by
          cases hd : x.D.testBit i
          · rfl
          · rcases (hb i hil).1 hd with q | q
            · exact absurd hir q.2.2.2
            · rw [hir] at q; exact absurd hrM q.1
        have hx1 := sendo x hx
        have e1 := fun k => exW_bit (L := L ++ [o]) (h.bits hx (Nat.le_refl L.length)) k
        have hb2 : (exW (L ++ [o]) x L.length).D.testBit i = false := by
          cases hd : (exW (L ++ [o]) x L.length).D.testBit i
          · rfl
          · rcases (e1 i).1 hd with q | q
            · rw [hbi] at q; cases q
            · omega
        have e2 := fun k => exW_bit (L := L ++ [o]) hb2 k
        refine ⟨_, clo_step hclo hx1 (i := i) (by rw [hlen]; omega) hb2 ?_ fun k hk hd => ?_, ?_, fun k hk => ?_⟩
        · rw [getD_app hil, hir]
          show x.c < r.a
          rw [h.cc x hx]
          exact h.abv r hrM hrs
        · rw [getD_app hil, hir]
          rw [hlen] at hk
          by_cases e : k < L.length
          · rw [getD_app e]
            rcases (e1 k).1 hd with q | q
            · exact hbr k e q
            · omega
          · obtain rfl : k = L.length := by omega
            rw [getD_last]
            exact hro
        · unfold exW
          rw [getD_app hil, hir]
        · rw [e2, e1]
          rw [hlen] at hk
          by_cases e : k < L.length
          · rw [getD_app e, hLM k e]
            by_cases hki : k = i
            · subst hki
              rw [hir]
              exact ⟨fun _ => .inl ⟨hrM, hXr⟩, fun _ => .inr rfl⟩
            · have hne : L.getD k zO ≠ r := fun q => hki (inc_inj h.inc e hil (by rw [q, hir]))
              constructor
              · rintro ((q | q) | q)
                · rcases (hb k e).1 q with q | q
                  · exact .inl ⟨q.1, q.2.2.1⟩
                  · exact .inr q
                · omega
                · exact absurd q hki
              · rintro (q | q)
                · exact .inl (.inl ((hb k e).2 (.inl ⟨q.1, q.1, q.2, hne⟩)))
                · exact .inl (.inl ((hb k e).2 (.inr q)))
          · obtain rfl : k = L.length := by omega
            rw [getD_last]
            exact ⟨fun _ => .inl ⟨by simp, ho⟩, fun _ => .inl (.inr rfl)⟩
    · rcases List.eq_nil_or_concat B with hBn | ⟨B2, b, hBn⟩
      · subst hBn
        obtain ⟨rfl, e⟩ : M = A ∧ o = r := by
          have := List.append_inj' hM (by simp)
          exact ⟨this.1, by simpa using this.2⟩
        subst e
        exact absurd (hrX hst) ho
      · rw [List.concat_eq_append] at hBn
        subst hBn
        have hM2 : M ++ [o] = (A ++ r :: B2) ++ [b] := by rw [hM]; simp
        obtain ⟨hM3, e⟩ : M = A ++ r :: B2 ∧ o = b := by
          have := List.append_inj' hM2 (by simp)
          exact ⟨this.1, by simpa using this.2⟩
        subst e
        have hXM : Fly M X := fun z hz => by
          obtain ⟨h1, h2⟩ := hX z hz
          rcases List.mem_append.1 h1 with q | q
          · exact ⟨q, h2⟩
          · obtain rfl : z = o := by simpa using q
            exact absurd hz ho
        obtain ⟨x, hx, hv, hb⟩ := h.cmp y hy A r B2 hM3 X hXM hrX hA (fun z hz => hB z (by simp [hz]))
        refine ⟨x, hsub x hx, hv, fun k hk => ?_⟩
        rw [hlen] at hk
        by_cases e : k < L.length
        · rw [getD_app e, hLM k e]; exact hb k e
        · obtain rfl : k = L.length := by omega
          rw [getD_last, h.bits hx (Nat.le_refl _), h.bits hy (Nat.le_refl _)]
          simp [ho]
end

theorem filter_split {p : Od → Bool} : ∀ {l A B : List Od} {r : Od}, l.filter p = A ++ r :: B → ∃ l1 l2, l = l1 ++ r :: l2 ∧ l1.filter p = A ∧ l2.filter p = B
  | [], A, B, r, h => by simp at h
  | x :: l, A, B, r, h => by
    by_cases hp : p x = true
    · rw [List.filter_cons_of_pos hp] at h
      cases A with
      | nil =>
        simp only [List.nil_append, List.cons.injEq] at h
        exact ⟨[], l, by rw [h.1]; rfl, rfl, h.2⟩
      | cons y A =>
        simp only [List.cons_append, List.cons.injEq] at h
        obtain ⟨l1, l2, h1, h2, h3⟩ := filter_split h.2
        exact ⟨x :: l1, l2, by rw [h1]; rfl, by rw [List.filter_cons_of_pos hp, h2, h.1], h3⟩
    · rw [List.filter_cons_of_neg hp] at h
      obtain ⟨l1, l2, h1, h2, h3⟩ := filter_split h
      exact ⟨x :: l1, l2, by rw [h1]; rfl, by rw [List.filter_cons_of_neg hp, h2], h3⟩
section
variable {L : List Od} {all : List Wo} {V : List Int} {M : List Od} {c : Int}
theorem Inv.same (h : Inv L all V M c) {R : List Wo} (hsub : ∀ x ∈ all, x ∈ R) (hclo : Clo L R) (hr : ∀ x ∈ R, ∃ y ∈ all, Rch L y x) : Inv L R V M c :=
  Inv.close h.tr h.cc h.ne h.mon h.fre h.abv hsub hclo hr fun y hy A r B hM X hX hrX hA hB => by
    obtain ⟨x, hx, hv, hb⟩ := h.cmp y hy A r B hM X hX hrX hA hB
    exact ⟨x, hsub x hx, hv, hb⟩
theorem dn_bit (h : Inv L all V M c) {D j : Nat} (hj : j < L.length) : dn L D (L.getD j zO) ↔ D.testBit j = true := by
  refine ⟨fun ⟨k, hk, e, hd⟩ => ?_, fun q => ⟨j, hj, rfl, q⟩⟩
  have : k = j := inc_inj h.inc hk hj (by rw [e])
  rw [← this]; exact hd
/-- A confirmation of an order that is not in flight. -/
theorem Inv.late (h : Inv L all V M c) {k : Nat} (hk : k < L.length) (hs : cfE (L.getD k zO).a M ≠ 0) (hne : ∃ x, x ∈ all ∧ x.D.testBit k = true) {R : List Wo} (hsub : ∀ x ∈ all, x.D.testBit k = true → x ∈ R) (hclo : Clo L R) (hr : ∀ x ∈ R, ∃ y ∈ all, y.D.testBit k = true ∧ Rch L y x) : Inv L R V M c := by
  have hnot : L.getD k zO ∉ M := fun q => by
    apply hs
    unfold cfE
    have : (fsI (cfP (L.getD k zO).a) M 0).isSome = true := by
      rw [fsI_any, List.any_eq_true]
      refine ⟨_, q, ?_⟩
      unfold cfP
      rw [not_st (h.vals _ (getD_mem hk))]
      simp
    cases hf : fsI (cfP (L.getD k zO).a) M 0 with
    | some i => rfl
    | none => rw [hf] at this; cases this
  have mem : ∀ x, x ∈ all.filter (fun x : Wo => x.D.testBit k) ↔ x ∈ all ∧ x.D.testBit k = true := fun x => List.mem_filter
  refine Inv.close (all := all.filter fun x : Wo => x.D.testBit k) (fun x hx => h.tr x ((mem x).1 hx).1) (fun x hx => h.cc x ((mem x).1 hx).1) ?_ h.mon h.fre h.abv (fun x hx => hsub x ((mem x).1 hx).1 ((mem x).1 hx).2) hclo (fun x hx => ?_) fun y hy A r B hM X hX hrX hA hB => ?_
  · obtain ⟨x, hx, hd⟩ := hne
    exact ⟨x, (mem x).2 ⟨hx, hd⟩⟩
  · obtain ⟨y, hy, hd, q⟩ := hr x hx
    exact ⟨y, (mem y).2 ⟨hy, hd⟩, q⟩
  · obtain ⟨hy1, hyd⟩ := (mem y).1 hy
    obtain ⟨x, hx, hv, hb⟩ := h.cmp y hy1 A r B hM X hX hrX hA hB
    exact ⟨x, hsub x hx ((hb k hk).2 (.inr ⟨hnot, hyd⟩)), hv, hb⟩
/-- An order in flight is confirmed. -/
theorem Inv.conf (h : Inv L all V M c) {k : Nat} (hk : k < L.length) (hs : cfE (L.getD k zO).a M = 0) (hne : ∃ x, x ∈ all ∧ x.D.testBit k = true) {R : List Wo} (hsub : ∀ x ∈ all, x.D.testBit k = true → x ∈ R) (hclo : Clo L R) (hr : ∀ x ∈ R, ∃ y ∈ all, y.D.testBit k = true ∧ Rch L y x) :
    Inv L R (rV 0 (cfM (L.getD k zO).a M)) (rM 0 (cfM (L.getD k zO).a M)) c := by
  have tr := fun x hx hd => (h.tr x hx).conf hk hd hs
  rw [rM_z] at tr ⊢
  obtain ⟨i, -, hi, hp, hm⟩ := cf_some hs
  have hfl : stB (M.getD i zO) = false ∧ (M.getD i zO).a = (L.getD k zO).a := by
    unfold cfP at hp
    rw [Bool.and_eq_true, decide_eq_true_eq] at hp
    exact ⟨by simpa using hp.1, hp.2⟩
  have ho : M.getD i zO = L.getD k zO := by
    obtain ⟨k', hk', e⟩ := mem_get (h.fly _ (getD_mem hi) hfl.1)
    have : k' = k := inc_inj h.inc hk' hk (by rw [e]; exact hfl.2)
    rw [← e, this]
  have hsp := take_split hi
  have hcf : cfO M i = (flt (M.take i) ++ M.drop (i + 1)).filter (cfS (M.getD i zO)) ++ [{ M.getD i zO with c := -1 }] := rfl
  rw [hm, hcf] at tr ⊢
  generalize M.take i = T at *
  generalize M.drop (i + 1) = Y at *
  generalize M.getD i zO = o at *
  clear hs hp hm hcf hi
  have hst : stB ({ o with c := -1 } : Od) = true := stB_iff.2 rfl
  have hoM : o ∈ M := by rw [hsp]; simp
  have hoL : o ∈ L := h.fly o hoM hfl.1
  have hpw := ((isW_iff V M).1 h.ok).2.2.2.2.1
  rw [pre_flt hsp hfl.1, List.pairwise_append] at hpw
  obtain ⟨-, hp2, hp3⟩ := hpw
  rw [List.pairwise_cons] at hp2
  have hT : ∀ x ∈ T, stB x = false → x.a < o.a ∧ x.b ≤ o.b := fun x hx hxs => hp3 x (flt_mem.2 ⟨hx, hxs⟩) o List.mem_cons_self
  have hY : ∀ x ∈ Y, stB x = false → o.a < x.a ∧ o.b ≤ x.b := fun x hx hxs => hp2.1 x (flt_mem.2 ⟨hx, hxs⟩)
  clear hp2 hp3
  obtain ⟨F, hF⟩ : ∃ F, (flt T ++ Y).filter (cfS o) = F := ⟨_, rfl⟩
  rw [hF] at tr ⊢
  have memF : ∀ x, stB x = false → (x ∈ F ↔ x ∈ M ∧ x ≠ o ∧ okq x o) := fun x hxs => by
    rw [← hF, List.mem_filter, cfS_iff, List.mem_append, flt_mem]
    constructor
    · rintro ⟨q, hq⟩
      rcases q with q | q
      · exact ⟨by rw [hsp]; simp [q.1], fun e => by have := (hT x q.1 hxs).1; rw [e] at this; omega, hq⟩
      · exact ⟨by rw [hsp]; simp [q], fun e => by have := (hY x q hxs).1; rw [e] at this; omega, hq⟩
    · rintro ⟨q, hne, hq⟩
      refine ⟨?_, hq⟩
      rw [hsp] at q
      rcases List.mem_append.1 q with q | q
      · exact .inl ⟨q, hxs⟩
      · rcases List.mem_cons.1 q with q | q
        · exact absurd q hne
        · exact .inr q
  have mem' : ∀ x, stB x = false → (x ∈ F ++ [{ o with c := -1 }] ↔ x ∈ M ∧ x ≠ o ∧ okq x o) := fun x hxs => by
    rw [List.mem_append, ← memF x hxs]
    refine ⟨fun q => q.elim id fun q => ?_, .inl⟩
    have e : x = { o with c := -1 } := by simpa using q
    rw [e, hst] at hxs; cases hxs
  have okF : ∀ x ∈ F, okq x o := fun x hx => by rw [← hF] at hx; exact cfS_iff.1 (List.mem_filter.1 hx).2
  have mem : ∀ x, x ∈ all.filter (fun x : Wo => x.D.testBit k) ↔ x ∈ all ∧ x.D.testBit k = true := fun x => List.mem_filter
  refine Inv.close (all := all.filter fun x : Wo => x.D.testBit k) (fun x hx => tr x ((mem x).1 hx).1 ((mem x).1 hx).2) (fun x hx => h.cc x ((mem x).1 hx).1) ?_ h.mon (fun j hj hn r hr hrs => ?_) (fun x hx hxs => h.abv x ((mem' x hxs).1 hx).1 hxs)
    (fun x hx => hsub x ((mem x).1 hx).1 ((mem x).1 hx).2) hclo (fun x hx => ?_) fun y hy A r B hM X hX hrX hA hB => ?_
  · obtain ⟨x, hx, hd⟩ := hne
    exact ⟨x, (mem x).2 ⟨hx, hd⟩⟩
  · obtain ⟨hrM, -, hro⟩ := (mem' r hrs).1 hr
    by_cases hjM : L.getD j zO ∈ M
    · have hjs := not_st (h.vals _ (getD_mem hj))
      by_cases e : L.getD j zO = o
      · rw [e]; exact hro
      · have hno : ¬ okq (L.getD j zO) o := fun q => hn ((mem' _ hjs).2 ⟨hjM, e, q⟩)
        obtain ⟨h1, h2⟩ := h.ord (getD_mem hj) hoL hno
        exact okq_tr hro (by omega) h2
    · exact h.fre j hj hjM r hrM hrs
  · obtain ⟨y, hy, hd, q⟩ := hr x hx
    exact ⟨y, (mem y).2 ⟨hy, hd⟩, q⟩
  · obtain ⟨hy1, hyd⟩ := (mem y).1 hy
    obtain ⟨X0, hX0⟩ : ∃ P : Od → Prop, ∀ x, P x ↔ (x ∈ M ∧ stB x = false) ∧ ((x ∈ F ++ [{ o with c := -1 }] ∧ X x) ∨ (x ∉ F ++ [{ o with c := -1 }] ∧ dn L y.D x)) := ⟨_, fun x => Iff.rfl⟩
    have fl0 : Fly M X0 := fun x hx => ((hX0 x).1 hx).1
    have hno : o ∉ F ++ [{ o with c := -1 }] := fun q => ((mem' o hfl.1).1 q).2.1 rfl
    have hX0o : X0 o := (hX0 o).2 ⟨⟨hoM, hfl.1⟩, .inr ⟨hno, ⟨k, hk, ho.symm, hyd⟩⟩⟩
    have gone : ∀ x, x ∈ M → stB x = false → x ∉ F ++ [{ o with c := -1 }] → x ≠ o → ¬ okq x o ∧ x.a < o.a ∧ x.b ≤ o.b := fun x hx hxs hn hne => by
      have hq : ¬ okq x o := fun q => hn ((mem' x hxs).2 ⟨hx, hne, q⟩)
      exact ⟨hq, h.ord (h.fly x hx hxs) hoL hq⟩
    have fin : ∀ x ∈ all, Bits L M X0 y.D x.D → x ∈ R ∧ Bits L (F ++ [{ o with c := -1 }]) X y.D x.D := fun x hx hb => by
      refine ⟨hsub x hx ((hb k hk).2 (.inl ⟨by rw [← ho]; exact hoM, by rw [← ho]; exact hX0o⟩)), fun j hj => (hb j hj).trans ?_⟩
      have hjs := not_st (h.vals _ (getD_mem hj))
      by_cases q1 : L.getD j zO ∈ F ++ [{ o with c := -1 }]
      · have q2 := ((mem' _ hjs).1 q1).1
        constructor
        · rintro (⟨-, q⟩ | ⟨q, -⟩)
          · rcases ((hX0 _).1 q).2 with q | q
            · exact .inl q
            · exact absurd q1 q.1
          · exact absurd q2 q
        · rintro (q | q)
          · exact .inl ⟨q2, (hX0 _).2 ⟨⟨q2, hjs⟩, .inl q⟩⟩
          · exact absurd q1 q.1
      · constructor
        · rintro (⟨-, q⟩ | ⟨-, q⟩)
          · rcases ((hX0 _).1 q).2 with q | q
            · exact absurd q.1 q1
            · exact .inr ⟨q1, (dn_bit h hj).1 q.2⟩
          · exact .inr ⟨q1, q⟩
        · rintro (q | ⟨-, q⟩)
          · exact absurd q.1 q1
          · by_cases q2 : L.getD j zO ∈ M
            · exact .inl ⟨q2, (hX0 _).2 ⟨⟨q2, hjs⟩, .inr ⟨q1, (dn_bit h hj).2 q⟩⟩⟩
            · exact .inr ⟨q2, q⟩
    rcases List.eq_nil_or_concat B with hBn | ⟨B2, b, hBn⟩
    · subst hBn
      obtain ⟨hFA, hor⟩ : F = A ∧ ({ o with c := -1 } : Od) = r := by
        have := List.append_inj' hM (by simp)
        exact ⟨this.1, by simpa using this.2⟩
      have key : ∀ x, X0 x → okq o x := fun x hx => by
        obtain ⟨⟨hxM, hxs⟩, q⟩ := (hX0 x).1 hx
        rcases q with ⟨q1, q2⟩ | ⟨q1, -⟩
        · have hxF : x ∈ A := by rw [← hFA]; exact (memF x hxs).2 ((mem' x hxs).1 q1)
          have := hA x hxF q2
          rw [← hor] at this
          exact this
        · by_cases e : x = o
          · rw [e]; exact okq_self o
          · obtain ⟨-, g1, g2⟩ := gone x hxM hxs q1 e
            exact okq_le (by omega) g2
      obtain ⟨x, hx, hv, hb⟩ := h.cmp y hy1 T o Y hsp X0 fl0 (fun _ => hX0o) (fun x _ hxx => key x hxx) (fun x _ hxx => ⟨hfl.1, key x hxx⟩)
      exact ⟨x, (fin x hx hb).1, by rw [hv, ← hor], (fin x hx hb).2⟩
    · rw [List.concat_eq_append] at hBn
      subst hBn
      have hM2 : F ++ [{ o with c := -1 }] = (A ++ r :: B2) ++ [b] := by rw [hM]; simp
      have hFA : F = A ++ r :: B2 := (List.append_inj' hM2 (by simp)).1
      have hrF : r ∈ F := by rw [hFA]; simp
      have hro := okF r hrF
      have out : ∀ x, x ∈ M → stB x = false → x ∉ F ++ [{ o with c := -1 }] → okq r x := fun x hx hxs hn => by
        by_cases e : x = o
        · rw [e]; exact hro
        · obtain ⟨-, g1, g2⟩ := gone x hx hxs hn e
          exact okq_tr hro (by omega) g2
      cases hrs : stB r
      · have hrM := ((memF r hrs).1 hrF).1
        obtain ⟨A1, B1, hM1⟩ := List.append_of_mem hrM
        have key : ∀ x, X0 x → okq r x := fun x hx => by
          obtain ⟨⟨hxM, hxs⟩, q⟩ := (hX0 x).1 hx
          rcases q with ⟨q1, q2⟩ | ⟨q1, -⟩
          · rw [hM] at q1
            rcases List.mem_append.1 q1 with q | q
            · exact hA x q q2
            · rcases List.mem_cons.1 q with q | q
              · rw [q]; exact okq_self r
              · exact (hB x q q2).2
          · exact out x hxM hxs q1
        have hX0r : X0 r := (hX0 r).2 ⟨⟨hrM, hrs⟩, .inl ⟨List.mem_append.2 (.inl hrF), hrX hrs⟩⟩
        obtain ⟨x, hx, hv, hb⟩ := h.cmp y hy1 A1 r B1 hM1 X0 fl0 (fun _ => hX0r) (fun x _ hxx => key x hxx) (fun x _ hxx => ⟨hrs, key x hxx⟩)
        exact ⟨x, (fin x hx hb).1, hv, (fin x hx hb).2⟩
      · have hFA2 := hFA
        rw [← hF] at hFA2
        obtain ⟨l1, l2, hl, hl1, hl2⟩ := filter_split hFA2
        obtain ⟨C, hl1C, hYC⟩ : ∃ C, l1 = flt T ++ C ∧ Y = C ++ r :: l2 := by
          rcases List.append_eq_append_iff.1 hl with ⟨C, h1, h2⟩ | ⟨C, h1, h2⟩
          · exact ⟨C, h1, h2⟩
          · cases C with
            | nil => exact ⟨[], by simpa using h1.symm, by simpa using h2.symm⟩
            | cons z C =>
              simp only [List.cons_append, List.cons.injEq] at h2
              have : r ∈ flt T := by rw [h1, h2.1]; simp
              have := (flt_mem.1 this).2
              rw [hrs] at this; cases this
        have hM1 : M = (T ++ o :: C) ++ r :: l2 := by rw [hsp, hYC]; simp
        obtain ⟨x, hx, hv, hb⟩ := h.cmp y hy1 (T ++ o :: C) r l2 hM1 X0 fl0 (fun q => by rw [hrs] at q; cases q) (fun x hx hxx => by
          obtain ⟨⟨hxM, hxs⟩, q⟩ := (hX0 x).1 hxx
          rcases q with ⟨q1, q2⟩ | ⟨q1, -⟩
          · obtain ⟨-, hne, hxo⟩ := (mem' x hxs).1 q1
            refine hA x ?_ q2
            rw [← hl1, List.mem_filter, hl1C]
            refine ⟨?_, cfS_iff.2 hxo⟩
            rcases List.mem_append.1 hx with q | q
            · exact List.mem_append.2 (.inl (flt_mem.2 ⟨q, hxs⟩))
            · rcases List.mem_cons.1 q with q | q
              · exact absurd q hne
              · exact List.mem_append.2 (.inr q)
          · exact out x hxM hxs q1) (fun x hx hxx => by
          obtain ⟨⟨hxM, hxs⟩, q⟩ := (hX0 x).1 hxx
          rcases q with ⟨q1, q2⟩ | ⟨q1, -⟩
          · obtain ⟨-, -, hxo⟩ := (mem' x hxs).1 q1
            have hxB : x ∈ B2 := by rw [← hl2]; exact List.mem_filter.2 ⟨hx, cfS_iff.2 hxo⟩
            have := hB x (by simp [hxB]) q2
            rw [hrs] at this
            cases this.1
          · have g := hY x (by rw [hYC]; simp [hx]) hxs
            have hne : x ≠ o := fun e => by rw [e] at g; omega
            exact absurd (okq_le (by omega) g.2) (gone x hxM hxs q1 hne).1)
        exact ⟨x, (fin x hx hb).1, hv, (fin x hx hb).2⟩
/-- The device reports. -/
theorem Inv.rep (h : Inv L all V M c) {w : Wo} (hw : w ∈ all) {t : Int} (ht : tpf w.D L w.c L.length = t) {R : List Wo} (hsub : ∀ x ∈ all, x.v = w.v → tpf x.D L x.c L.length = t → (⟨x.v, x.D, t⟩ : Wo) ∈ R) (hclo : Clo L R) (hr : ∀ x ∈ R, ∃ y ∈ all, y.v = w.v ∧ tpf y.D L y.c L.length = t ∧ Rch L ⟨y.v, y.D, t⟩ x) :
    rpE V M w.v t = 0 ∧ Inv L R (rV 0 (rpM M w.v t)) (rM 0 (rpM M w.v t)) t := by
  have hE : rpE V M w.v t = 0 := by rw [← ht]; exact (h.tr w hw).rep.1
  refine ⟨hE, ?_⟩
  have tr : ∀ z ∈ all, z.v = w.v → tpf z.D L z.c L.length = t → Tr L z.D z.v t (rV 0 (rpM M w.v t)) (rM 0 (rpM M w.v t)) := fun z hz h1 h2 => by
    have := (h.tr z hz).rep.2
    rw [h1, h2] at this
    rw [h1]; exact this
  rw [rM_z] at tr ⊢
  have hcf : rpM M w.v t = ⟨t, rpB t M, -1, w.v⟩ :: (flt M).filter (rpT t) := rfl
  rw [hcf] at tr ⊢
  obtain ⟨s, hs⟩ : ∃ s : Od, (⟨t, rpB t M, -1, w.v⟩ : Od) = s := ⟨_, rfl⟩
  have hsv : s.d = w.v := by rw [← hs]
  have hst : stB s = true := by rw [← hs]; exact stB_iff.2 rfl
  obtain ⟨F, hF⟩ : ∃ F, (flt M).filter (rpT t) = F := ⟨_, rfl⟩
  rw [hs, hF] at tr ⊢
  clear hcf hs
  have memF : ∀ x, x ∈ F ↔ x ∈ M ∧ stB x = false ∧ t < x.a := fun x => by
    rw [← hF, List.mem_filter, flt_mem]
    unfold rpT
    rw [decide_eq_true_eq, and_assoc]
  have mem' : ∀ x, stB x = false → (x ∈ s :: F ↔ x ∈ M ∧ t < x.a) := fun x hxs => by
    rw [List.mem_cons, memF]
    constructor
    · rintro (q | q)
      · rw [q, hst] at hxs; cases hxs
      · exact ⟨q.1, q.2.2⟩
    · rintro ⟨q1, q2⟩; exact .inr ⟨q1, hxs, q2⟩
  obtain ⟨g, hg⟩ : ∃ g : Wo → Bool, ∀ x, g x = true ↔ x.v = w.v ∧ tpf x.D L x.c L.length = t := ⟨fun x => decide (x.v = w.v ∧ tpf x.D L x.c L.length = t), fun x => decide_eq_true_iff⟩
  have mem : ∀ y, y ∈ (all.filter g).map (fun x : Wo => (⟨x.v, x.D, t⟩ : Wo)) ↔ ∃ z, z ∈ all ∧ z.v = w.v ∧ tpf z.D L z.c L.length = t ∧ (⟨z.v, z.D, t⟩ : Wo) = y := fun y => by
    rw [List.mem_map]
    constructor
    · rintro ⟨z, hz, e⟩
      rw [List.mem_filter, hg] at hz
      exact ⟨z, hz.1, hz.2.1, hz.2.2, e⟩
    · rintro ⟨z, hz, h1, h2, e⟩
      exact ⟨z, List.mem_filter.2 ⟨hz, (hg z).2 ⟨h1, h2⟩⟩, e⟩
  refine Inv.close (all := (all.filter g).map (fun x : Wo => (⟨x.v, x.D, t⟩ : Wo))) (fun x hx => ?_) (fun x hx => ?_) ?_ h.mon (fun j hj hn r hr hrs => ?_) (fun x hx hxs => ((mem' x hxs).1 hx).2) (fun x hx => ?_) hclo (fun x hx => ?_) fun y hy A r B hM X hX hrX hA hB => ?_
  · obtain ⟨z, hz, h1, h2, rfl⟩ := (mem x).1 hx
    exact tr z hz h1 h2
  · obtain ⟨z, hz, h1, h2, rfl⟩ := (mem x).1 hx
    rfl
  · exact ⟨_, (mem _).2 ⟨w, hw, rfl, ht, rfl⟩⟩
  · obtain ⟨hrM, hra⟩ := (mem' r hrs).1 hr
    have hjs := not_st (h.vals _ (getD_mem hj))
    by_cases hjM : L.getD j zO ∈ M
    · have hja : ¬ t < (L.getD j zO).a := fun q => hn ((mem' _ hjs).2 ⟨hjM, q⟩)
      exact okq_le (by omega) (h.le (h.fly r hrM hrs) (getD_mem hj) (by omega))
    · exact h.fre j hj hjM r hrM hrs
  · obtain ⟨z, hz, h1, h2, rfl⟩ := (mem x).1 hx
    exact hsub z hz h1 h2
  · obtain ⟨y, hy, h1, h2, q⟩ := hr x hx
    exact ⟨_, (mem _).2 ⟨y, hy, h1, h2, rfl⟩, q⟩
  · obtain ⟨z, hz, h1, h2, e⟩ := (mem y).1 hy
    have hyR : y ∈ R := by rw [← e]; exact hsub z hz h1 h2
    have hyv : y.v = w.v := by rw [← e]; exact h1
    have hyc : y.c = t := by rw [← e]
    have ybits : ∀ j, j < L.length → y.D.testBit j = true → (L.getD j zO).a ≤ t := fun j hj hd => by
      rw [← h2]
      exact (tpf_prop z.D L z.c L.length).2.1 j hj (by rw [← e] at hd; exact hd)
    have ynot : ∀ j, j < L.length → y.D.testBit j = true → L.getD j zO ∉ s :: F := fun j hj hd q => by
      have := ((mem' _ (not_st (h.vals _ (getD_mem hj)))).1 q).2
      have := ybits j hj hd
      omega
    cases A with
    | nil =>
      simp only [List.nil_append, List.cons.injEq] at hM
      obtain ⟨rfl, hFB⟩ := hM
      have hno : ∀ x, ¬ X x := fun x hx => by
        obtain ⟨h3, h4⟩ := hX x hx
        rcases List.mem_cons.1 h3 with q | q
        · rw [q, hst] at h4; cases h4
        · have := (hB x (by rw [← hFB]; exact q) hx).1
          rw [hst] at this; cases this
      refine ⟨y, hyR, by rw [hyv, hsv], fun j hj => ⟨fun hd => .inr ⟨ynot j hj hd, hd⟩, fun q => ?_⟩⟩
      rcases q with q | q
      · exact absurd q.2 (hno _)
      · exact q.2
    | cons a A =>
      simp only [List.cons_append, List.cons.injEq] at hM
      have hrF : r ∈ F := by rw [hM.2]; simp
      obtain ⟨hrM, hrs, hra⟩ := (memF r).1 hrF
      have hXr := hrX hrs
      obtain ⟨i, hil, hir⟩ := mem_get (h.fly r hrM hrs)
      have okX : ∀ x, X x → okq r x := fun x hx => by
        obtain ⟨h3, h4⟩ := hX x hx
        rcases List.mem_cons.1 h3 with q | q
        · rw [q, hst] at h4; cases h4
        · rw [hM.2] at q
          rcases List.mem_append.1 q with q | q
          · exact hA x (by simp [q]) hx
          · rcases List.mem_cons.1 q with q | q
            · rw [q]; exact okq_self r
            · exact (hB x q hx).2
      have chain : ∀ m, m ≤ L.length → ∃ x ∈ R, x.c = t ∧ ∀ j, j < L.length → (x.D.testBit j = true ↔ (j < m ∧ L.getD j zO ∈ s :: F ∧ X (L.getD j zO) ∧ L.getD j zO ≠ r) ∨ (L.getD j zO ∉ s :: F ∧ y.D.testBit j = true)) := by
        intro m
        induction m with
        | zero =>
          intro _
          refine ⟨y, hyR, hyc, fun j hj => ⟨fun hd => .inr ⟨ynot j hj hd, hd⟩, fun q => ?_⟩⟩
          rcases q with q | q
          · exact absurd q.1 (by omega)
          · exact q.2
        | succ m ih =>
          intro hm
          obtain ⟨x, hx, hxc, hb⟩ := ih (by omega)
          by_cases hq : L.getD m zO ∈ s :: F ∧ X (L.getD m zO) ∧ L.getD m zO ≠ r
          · have hms := not_st (h.vals _ (getD_mem (show m < L.length by omega)))
            have hma := ((mem' _ hms).1 hq.1).2
            have hbm : x.D.testBit m = false := by
              cases hd : x.D.testBit m
              · rfl
              · rcases (hb m (by omega)).1 hd with q | q
                · exact absurd q.1 (by omega)
                · exact absurd hq.1 q.1
            refine ⟨_, clo_step hclo hx (i := m) (by omega) hbm (by rw [hxc]; exact hma) (fun j hj hd => ?_), hxc, fun j hj => ?_⟩
            · rcases (hb j hj).1 hd with q | q
              · have h3 := h.inc j m q.1 (by omega)
                exact okq_le (by omega) (h.mon j m q.1 (by omega))
              · have h3 := ybits j hj q.2
                exact okq_le (by omega) (h.le (getD_mem (by omega)) (getD_mem hj) (by omega))
            · rw [exW_bit hbm]
              constructor
              · rintro (q | q)
                · rcases (hb j hj).1 q with q | q
                  · exact .inl ⟨by omega, q.2⟩
                  · exact .inr q
                · rw [q]; exact .inl ⟨by omega, hq⟩
              · rintro (q | q)
                · by_cases e : j = m
                  · exact .inr e
                  · exact .inl ((hb j hj).2 (.inl ⟨by omega, q.2⟩))
                · exact .inl ((hb j hj).2 (.inr q))
          · refine ⟨x, hx, hxc, fun j hj => (hb j hj).trans (or_congr ⟨fun q => ⟨by omega, q.2⟩, fun q => ⟨?_, q.2⟩⟩ Iff.rfl)⟩
            have : j ≠ m := fun e => hq (by rw [← e]; exact q.2)
            omega
      obtain ⟨x, hx, hxc, hb⟩ := chain L.length (Nat.le_refl _)
      have hiF : L.getD i zO ∈ s :: F := by rw [hir]; exact List.mem_cons_of_mem _ hrF
      have hbi : x.D.testBit i = false := by
        cases hd : x.D.testBit i
        · rfl
        · rcases (hb i hil).1 hd with q | q
          · exact absurd hir q.2.2.2
          · exact absurd hiF q.1
      refine ⟨_, clo_step hclo hx (i := i) hil hbi (by rw [hxc, hir]; exact hra) (fun j hj hd => ?_), by unfold exW; rw [hir], fun j hj => ?_⟩
      · rw [hir]
        rcases (hb j hj).1 hd with q | q
        · exact okX _ q.2.2.1
        · have h3 := ybits j hj q.2
          exact okq_le (by omega) (h.le (h.fly r hrM hrs) (getD_mem hj) (by omega))
      · rw [exW_bit hbi]
        constructor
        · rintro (q | q)
          · rcases (hb j hj).1 q with q | q
            · exact .inl ⟨q.2.1, q.2.2.1⟩
            · exact .inr q
          · rw [q, hir]; exact .inl ⟨List.mem_cons_of_mem _ hrF, hXr⟩
        · rintro (q | q)
          · by_cases e : j = i
            · exact .inr e
            · exact .inl ((hb j hj).2 (.inl ⟨hj, q.1, q.2, fun q2 => e (inc_inj h.inc hj hil (by rw [q2, hir]))⟩))
          · exact .inl ((hb j hj).2 (.inr q))
/-- The different values of states. -/
def wvl (all : List Wo) : List Int := ((List.range 16).map fun n : Nat => (n : Int)).filter fun v => all.any fun x => decide (x.v = v)
theorem Inv.values (h : Inv L all V M c) : V = wvl all := by
  obtain ⟨x0, h0⟩ := h.ne
  have hV := ((isW_iff V M).1 h.ok).2.2.2.2.2.2
  rw [hV]
  unfold rvl wvl
  refine List.filter_congr fun v _ => ?_
  rw [Bool.eq_iff_iff, List.any_eq_true, List.any_eq_true]
  constructor
  · rintro ⟨r, hr, hv⟩
    obtain ⟨A, B, hM⟩ := List.append_of_mem hr
    obtain ⟨x, hx, hxv, -⟩ := h.cmp x0 h0 A r B hM (fun x => x = r ∧ stB r = false) (fun x hx => ⟨by rw [hx.1]; exact hr, by rw [hx.1]; exact hx.2⟩) (fun q => ⟨rfl, q⟩) (fun o _ q => by rw [q.1]; exact okq_self r) (fun o _ q => ⟨q.2, by rw [q.1]; exact okq_self r⟩)
    exact ⟨x, hx, by rw [hxv]; exact hv⟩
  · rintro ⟨x, hx, hv⟩
    obtain ⟨A, r, B, hM, hrd, -⟩ := (h.tr x hx).src
    exact ⟨r, by rw [hM]; simp, by rw [hrd]; exact hv⟩
end
theorem Inv.start {v : Int} (h : 0 ≤ v ∧ v < 16) : Inv [] [⟨v, 0, -1⟩] [v] (bS (-1) v) (-1) := by
  refine ⟨fun x hx => ?_, fun x hx => ?_, ⟨_, List.mem_cons_self⟩, fun x _ i hi => by simp at hi, fun i j _ hj => by simp at hj, fun j hj => by simp at hj, fun o ho hs => ?_, fun x0 _ A r B hM X hX _ _ _ => ?_⟩
  · obtain rfl : x = ⟨v, 0, -1⟩ := by simpa using hx
    exact Tr.start h
  · obtain rfl : x = ⟨v, 0, -1⟩ := by simpa using hx
    rfl
  · obtain rfl : o = ⟨-1, 0, -1, v⟩ := by simpa [bS] using ho
    exact absurd hs (by unfold stB; simp)
  · refine ⟨⟨v, 0, -1⟩, by simp, ?_, fun k hk => by simp at hk⟩
    unfold bS at hM
    have : r ∈ [(⟨-1, 0, -1, v⟩ : Od)] := by rw [hM]; simp
    obtain rfl : r = ⟨-1, 0, -1, v⟩ := by simpa using this
    rfl
open Go.RowKit Go.WideShapes Go.ChangeShapes Go.Joins Go.Deep

/-- A list of numbers of a kind lies behind a slice. -/
def KsAt (k : IntKind) (w : World) (v : Value) (l : List Int) : Prop :=
  ∃ a cap, v = .slice a l.length cap ∧ l.length ≤ maxLen ∧ (l ≠ [] → ∃ b off, a = some ⟨b, off, none⟩ ∧ ∀ (i : Nat) (x : Int), l[i]? = some x → w.cell? ⟨b, off + i, none⟩ = some (.int k x) ∧ k.min ≤ x ∧ x ≤ k.max)
theorem KsAt.step {k : IntKind} {w w1 : World} {v : Value} {l : List Int} (h : KsAt k w v l) (hb : Below w.heap.size w w1) : KsAt k w1 v l := by
  obtain ⟨a, cap, hv, hm, hc⟩ := h
  refine ⟨a, cap, hv, hm, fun hl => ?_⟩
  obtain ⟨b, off, ha, hx⟩ := hc hl
  exact ⟨b, off, ha, fun i x h => ⟨keep1 hb (hx i x h).1, (hx i x h).2⟩⟩
theorem cells45 : Try.prog.cellsOf 45 = 1 := by kernel_rfl
section
variable {H : Type} {enc : TypeId × Value → H} {w : World} {base : Nat} {sp : Nat → Bool} {held : Bool} {r : Reach} {b0 : Nat} {v : Value} {d : DataW H} {p : List MemPlace}
set_option maxRecDepth 100000 in
theorem open_ks {t e : TypeId} {kd : IntKind} (ht : Try.prog.underlying t = some (.slice e)) (he : Try.prog.underlying e = some (.int kd)) (hce : Try.prog.cellsOf e = 1) {n : Nat} {v : Value} {x : DataW H × List MemPlace} (h : DataW.trod enc Try.prog w base sp held n t [v] = some x) : ∃ l, KsAt kd w v l := by
  rcases Go.Deep.open_slice ht h with ⟨h0, _⟩ | ⟨a, len, cap, m, k, D, Pl, hv, _, hl, hm, hmm, _, hx⟩
  · simp only [List.cons.injEq, and_true] at h0
    exact ⟨[], ⟨none, 0, h0, by simp, fun h => absurd rfl h⟩⟩
  · simp only [List.cons.injEq, and_true] at hv
    rw [hce] at hx
    have hle : len ≤ m := by rw [hmm]; split <;> omega
    obtain ⟨f, hf⟩ := Go.Deep.choose_lt (α := Int) (p := fun i s => w.cells? base (a.add (i * 1)) 1 = some [.int kd s] ∧ kd.min ≤ s ∧ s ≤ kd.max) (n := len) (fun i hi => by
      obtain ⟨cs', h1, h2⟩ := hx i (by omega)
      obtain ⟨s, rfl, _, g⟩ := DataW.trod_int he h2
      have g4 : (decide (kd.min ≤ s) && decide (s ≤ kd.max)) = true := g
      rw [Bool.and_eq_true, decide_eq_true_iff, decide_eq_true_iff] at g4
      exact ⟨s, h1, g4⟩)
    refine ⟨(List.range len).map f, ⟨some a, cap, by rw [hv]; simp, by simp; omega, fun hne => ?_⟩⟩
    have hpos : 0 < len := by
      apply Classical.byContradiction; intro h0
      exact hne (by simp; omega)
    have hc := fun i hi => (World.cells?_some (hf i hi).1).2.2
    have h00 := hc 0 hpos 0 (by simp)
    rw [Go.Deep.add_add, Nat.zero_mul, Nat.add_zero] at h00
    obtain ⟨b, off, rfl⟩ := plain_of h00
    refine ⟨b, off, rfl, fun i x hi => ?_⟩
    obtain ⟨hlt, rfl⟩ := range_get f len i x hi
    have hj := fun j hj => hc i hlt j hj
    simp only [Go.WideShapes.add_plain, Nat.mul_one] at hj
    exact ⟨hj 0 (by simp), (hf i hlt).2⟩
set_option maxRecDepth 100000 in
theorem arg_u16s (hv : Value.okWide Try.prog w r b0 42 v) (h : DataW.Trod enc Try.prog w base sp held 42 v d p) : ∃ l, KsAt .u16 w v l := by
  obtain ⟨a, n, c, rfl⟩ := okWide_slice Try.underlying42 hv
  obtain ⟨k, h⟩ := h
  exact open_ks Try.underlying42 Try.underlying45 cells45 (v := .slice a n c) h
end
open Go.RowKit

theorem known_q {V : List Int} {M : List Od} (x : Int) (hx : 0 ≤ x ∧ x < 16) (hV : [x] = V) (hM : bS (-1) x = M) (w : World) : Calls Try.prog 22 #[.int .i64 x] w (ChK V M w) := by
  have h := known_any x w
  have e1 : inr x 0 15 = true := inr_iff.2 ⟨hx.1, by omega⟩
  have e2 : kV x = V := by unfold kV; rw [if_pos e1, hV]
  have e3 : kM x = M := by unfold kM; rw [if_pos e1, ← hM]; rfl
  rw [e2, e3] at h
  exact h
theorem ks_get {k : IntKind} {w : World} {sa : Option Addr} {sc : Nat} {l : List Int} (h : KsAt k w (.slice sa l.length sc) l) {i : Nat} (hi : i < l.length) : ∃ b off, sa = some ⟨b, off, none⟩ ∧ w.cell? ⟨b, off + i, none⟩ = some (.int k (l.getD i 0)) ∧ k.min ≤ l.getD i 0 ∧ l.getD i 0 ≤ k.max := by
  obtain ⟨a, c, hv, -, hx⟩ := h
  obtain ⟨rfl, rfl⟩ : sa = a ∧ sc = c := by simpa using hv
  obtain ⟨b, off, rfl, hy⟩ := hx (by intro e; rw [e] at hi; simp at hi)
  obtain ⟨y0, y1⟩ := hy i _ (getD_of hi)
  exact ⟨b, off, rfl, y0, y1⟩
end Go.Proofs.Ytolinnmhdclgpaa
