/- The law 'BeliefTruth' (plain facts). -/
import Derived.Test.YtigpopemllamdaaClb
namespace Go.Proofs.Ytigpopemllamdaa

theorem bit_add {D i : Nat} (h : D.testBit i = false) (j : Nat) : (D + 2 ^ i).testBit j = (D.testBit j || decide (j = i)) := by
  have hd : D = 2 ^ (i + 1) * (D / 2 ^ (i + 1)) + D % 2 ^ (i + 1) := (Nat.div_add_mod D (2 ^ (i + 1))).symm
  have hr : D % 2 ^ (i + 1) < 2 ^ i := by
    have h1 : (D % 2 ^ (i + 1)).testBit i = false := by rw [Nat.testBit_mod_two_pow, h]; simp
    have h2 : D % 2 ^ (i + 1) < 2 ^ (i + 1) := Nat.mod_lt _ (Nat.two_pow_pos _)
    refine Nat.lt_pow_two_of_testBit _ fun j hj => ?_
    by_cases e : j = i
    · subst e; exact h1
    · exact Nat.testBit_lt_two_pow (Nat.lt_of_lt_of_le h2 (Nat.pow_le_pow_right (by omega) (by omega)))
  have hr2 : D % 2 ^ (i + 1) + 2 ^ i < 2 ^ (i + 1) := by rw [Nat.pow_succ] at *; omega
  have hr3 : D % 2 ^ (i + 1) < 2 ^ (i + 1) := Nat.mod_lt _ (Nat.two_pow_pos _)
  generalize D / 2 ^ (i + 1) = q at *
  generalize D % 2 ^ (i + 1) = r at *
  subst hd
  rw [Nat.add_assoc, Nat.testBit_two_pow_mul_add _ hr2, Nat.testBit_two_pow_mul_add _ hr3]
  by_cases hj : j < i + 1
  · rw [if_pos hj, if_pos hj]
    by_cases e : j = i
    · subst e
      rw [Nat.add_comm r, Nat.testBit_two_pow_add_eq, Nat.testBit_lt_two_pow hr]; simp
    · rw [Nat.add_comm r, Nat.testBit_two_pow_add_gt (by omega)]; simp [e]
  · rw [if_neg hj, if_neg hj]
    have : j ≠ i := by omega
    simp [this]
/-- An order of a list that a device has executed. -/
def dn (L : List Od) (D : Nat) (o : Od) : Prop := ∃ k, k < L.length ∧ L.getD k zO = o ∧ D.testBit k = true
/-- A record survives what an order says. -/
def okq (r o : Od) : Prop := o.a < r.a + 16 ∧ o.b ≤ r.b
/-- The record that the device's value is of. -/
def Src (L : List Od) (D : Nat) (v : Int) (M : List Od) : Prop :=
  ∃ A r B, M = A ++ r :: B ∧ r.d = v ∧ (∀ o ∈ A, stB o = false → dn L D o → okq r o) ∧ ∀ o ∈ B, stB o = false → dn L D o → stB r = false ∧ okq r o
/-- An order that was not executed, and is believed not to be, can't be any more. -/
def Gone (L : List Od) (D : Nat) (c : Int) (M : List Od) : Prop :=
  ∀ j, j < L.length → L.getD j zO ∈ M ∨ D.testBit j = true ∨ (L.getD j zO).a ≤ c ∨ ∃ k, k < L.length ∧ blB L D j k = true
/-- What the runs keep. -/
structure Tr (L : List Od) (D : Nat) (v c : Int) (V : List Int) (M : List Od) : Prop where
  len : L.length ≤ 20
  bits : D < 2 ^ L.length
  vals : ∀ x ∈ L, isO x = true
  inc : ∀ i j, i < j → j < L.length → (L.getD i zO).a < (L.getD j zO).a
  cl : -1 ≤ c ∧ c ≤ 1000000000
  ok : isW V M = true
  fly : ∀ o ∈ M, stB o = false → o ∈ L
  gone : Gone L D c M
  set : ∀ o ∈ M, stB o = true → o.a ≤ tpf D L c L.length
  src : Src L D v M
theorem not_st {o : Od} (h : isO o = true) : stB o = false := by
  have := (isO_parts h).2.2.1
  cases hs : stB o with
  | false => rfl
  | true => have := stB_iff.1 hs; omega
theorem Tr.start {v : Int} (h : 0 ≤ v ∧ v < 16) : Tr [] 0 v (-1) [v] (bS (-1) v) := by
  refine ⟨by simp, by simp, fun x hx => (by cases hx), fun i j _ h => (by simp at h), by omega, bS_ok (by omega) h, fun o ho hs => ?_, fun j h => (by simp at h), fun o ho _ => ?_, ?_⟩
  · obtain rfl : o = ⟨-1, 0, -1, v⟩ := by simpa [bS] using ho
    exact absurd hs (by unfold stB; simp)
  · obtain rfl : o = ⟨-1, 0, -1, v⟩ := by simpa [bS] using ho
    exact Int.le_refl _
  · exact ⟨[], ⟨-1, 0, -1, v⟩, [], rfl, rfl, fun o ho => (by cases ho), fun o ho => (by cases ho)⟩
theorem Tr.can {L : List Od} {D : Nat} {v c : Int} {V : List Int} {M : List Od} (h : Tr L D v c V M) : V.contains v = true := by
  obtain ⟨-, -, hV⟩ := isW_len h.ok
  obtain ⟨A, r, B, rfl, rfl, -⟩ := h.src
  have hk := okR_d (((isW_iff _ _).1 h.ok).2.2.2.1 r (by simp))
  rw [List.contains_iff_mem, hV, (rvl_prop _).2]
  exact ⟨hk, r, by simp, rfl⟩
theorem getD_app {L : List Od} {x : Od} {i : Nat} (h : i < L.length) : (L ++ [x]).getD i zO = L.getD i zO := by
  rw [List.getD_eq_getElem?_getD, List.getD_eq_getElem?_getD, List.getElem?_append_left h]
theorem getD_last {L : List Od} {x : Od} : (L ++ [x]).getD L.length zO = x := by simp
theorem bit_ge {D n k : Nat} (h : D < 2 ^ n) (hk : n ≤ k) : D.testBit k = false := Nat.testBit_lt_two_pow (Nat.lt_of_lt_of_le h (Nat.pow_le_pow_right (by omega) hk))
theorem tpf_app {D : Nat} {L : List Od} {c : Int} {x : Od} (h : D < 2 ^ L.length) : tpf D (L ++ [x]) c (L ++ [x]).length = tpf D L c L.length := by
  rw [List.length_append, List.length_singleton, tpf_succ, if_neg (by rw [bit_ge h (Nat.le_refl _)]; exact Bool.false_ne_true)]
  have : ∀ n, n ≤ L.length → tpf D (L ++ [x]) c n = tpf D L c n := by
    intro n
    induction n with
    | zero => intro _; rfl
    | succ n ih => intro hn; rw [tpf_succ, tpf_succ, ih (by omega), getD_app (by omega)]
  exact this _ (Nat.le_refl _)
theorem dn_app {L : List Od} {D : Nat} {x o : Od} (hb : D < 2 ^ L.length) (h : dn (L ++ [x]) D o) : dn L D o := by
  obtain ⟨k, hk, ho, hd⟩ := h
  by_cases e : k < L.length
  · exact ⟨k, e, by rw [getD_app e] at ho; exact ho, hd⟩
  · rw [bit_ge hb (by omega)] at hd; cases hd
theorem blB_app {L : List Od} {D : Nat} {x : Od} {j k : Nat} (hj : j < L.length) (hk : k < L.length) (h : blB L D j k = true) : blB (L ++ [x]) D j k = true := by
  unfold blB at h ⊢; rw [getD_app hj, getD_app hk]; exact h
/-- An order is sent. -/
theorem Tr.sent {L : List Od} {D : Nat} {v c : Int} {V : List Int} {M : List Od} (h : Tr L D v c V M) {o : Od} (hl : L.length < 20) (hi : ∀ i, i < L.length → (L.getD i zO).a < o.a) (hs : sdE M o = 0) :
    Tr (L ++ [o]) D v c (rV 0 (M ++ [o])) (rM 0 (M ++ [o])) := by
  have hw := sent_ok h.ok hs
  have ho := (sdE_ok hs).1
  rw [rM_z] at hw ⊢
  obtain ⟨A, r, B, hM, hr, hA, hB⟩ := h.src
  refine ⟨by rw [List.length_append]; simp; omega, ?_, fun x hx => ?_, fun i j hij hj => ?_, h.cl, hw, fun x hx hst => ?_, fun j hj => ?_, fun x hx hst => ?_, ?_⟩
  · rw [List.length_append]; exact Nat.lt_of_lt_of_le h.bits (Nat.pow_le_pow_right (by omega) (by omega))
  · rcases List.mem_append.1 hx with hx | hx
    · exact h.vals x hx
    · obtain rfl : x = o := by simpa using hx
      exact ho
  · rw [List.length_append] at hj
    simp only [List.length_singleton] at hj
    by_cases e : j < L.length
    · rw [getD_app e, getD_app (by omega)]; exact h.inc i j hij e
    · obtain rfl : j = L.length := by omega
      rw [getD_last, getD_app hij]; exact hi i hij
  · rcases List.mem_append.1 hx with hx | hx
    · exact List.mem_append.2 (.inl (h.fly x hx hst))
    · exact List.mem_append.2 (.inr hx)
  · rw [List.length_append] at hj
    simp only [List.length_singleton] at hj
    by_cases e : j < L.length
    · rw [getD_app e]
      rcases h.gone j e with q | q | q | ⟨k, hk, q⟩
      · exact .inl (List.mem_append.2 (.inl q))
      · exact .inr (.inl q)
      · exact .inr (.inr (.inl q))
      · exact .inr (.inr (.inr ⟨k, by rw [List.length_append]; omega, blB_app e hk q⟩))
    · obtain rfl : j = L.length := by omega
      rw [getD_last]
      exact .inl (by simp)
  · rw [tpf_app h.bits]
    rcases List.mem_append.1 hx with hx | hx
    · exact h.set x hx hst
    · obtain rfl : x = o := by simpa using hx
      rw [not_st ho] at hst; cases hst
  · refine ⟨A, r, B ++ [o], by rw [hM]; simp, hr, fun x hx hst hd => hA x hx hst (dn_app h.bits hd), fun x hx hst hd => ?_⟩
    rcases List.mem_append.1 hx with hx | hx
    · exact hB x hx hst (dn_app h.bits hd)
    · obtain rfl : x = o := by simpa using hx
      obtain ⟨k, hk, hko, -⟩ := dn_app h.bits hd
      have := hi k hk
      rw [hko] at this
      omega
theorem pre_flt {M A B : List Od} {r : Od} (hM : M = A ++ r :: B) (hr : stB r = false) : flt M = flt A ++ r :: flt B := by
  rw [hM, flt_app]
  congr 1
  unfold flt
  rw [List.filter_cons, if_pos (by rw [hr]; rfl)]
theorem dn_mem {L : List Od} {D : Nat} {o : Od} (h : dn L D o) : o ∈ L := by
  obtain ⟨k, hk, rfl, -⟩ := h; exact getD_mem hk
theorem tpf_mono {D D' : Nat} {L : List Od} {c : Int} (h : ∀ j, D.testBit j = true → D'.testBit j = true) : tpf D L c L.length ≤ tpf D' L c L.length := by
  obtain ⟨h1, h2, -⟩ := tpf_prop D' L c L.length
  obtain ⟨-, -, h3⟩ := tpf_prop D L c L.length
  rcases h3 with h3 | ⟨i, hi, hd, h3⟩
  · rw [h3]; exact h1
  · rw [h3]; exact h2 i hi (h i hd)
/-- An order arrives. -/
theorem Tr.exec {L : List Od} {D : Nat} {v c : Int} {V : List Int} {M : List Od} (h : Tr L D v c V M) {i : Nat} (hi : i < L.length) : Tr L (exD (exB L D c i) D i) (exV (exB L D c i) L i v) c V M := by
  cases hx : exB L D c i
  · exact h
  · unfold exD exV
    rw [if_pos rfl, if_pos rfl]
    have hx' := hx
    unfold exB at hx'
    simp only [Bool.and_eq_true, Bool.not_eq_true', decide_eq_true_eq, List.all_eq_true, List.mem_range] at hx'
    obtain ⟨⟨h1, h2⟩, h3⟩ := hx'
    have hbit := bit_add h1
    have hmono : ∀ j, D.testBit j = true → (D + 2 ^ i).testBit j = true := fun j hj => by rw [hbit, hj]; rfl
    have hin : L.getD i zO ∈ M := by
      rcases h.gone i hi with q | q | q | ⟨k, hk, q⟩
      · exact q
      · rw [h1] at q; cases q
      · omega
      · rw [h3 k hk] at q; cases q
    have hst := not_st (h.vals _ (getD_mem hi))
    refine ⟨h.len, ?_, h.vals, h.inc, h.cl, h.ok, h.fly, fun j hj => ?_, fun o ho hs => Int.le_trans (h.set o ho hs) (tpf_mono hmono), ?_⟩
    · refine Nat.lt_pow_two_of_testBit _ fun j hj => ?_
      rw [hbit, bit_ge h.bits hj]
      simp
      omega
    · rcases h.gone j hj with q | q | q | ⟨k, hk, q⟩
      · exact .inl q
      · exact .inr (.inl (hmono j q))
      · exact .inr (.inr (.inl q))
      · refine .inr (.inr (.inr ⟨k, hk, ?_⟩))
        unfold blB at q ⊢
        rw [Bool.and_eq_true] at q ⊢
        exact ⟨hmono k q.1, q.2⟩
    · obtain ⟨A, B, hM⟩ := List.append_of_mem hin
      have hpw := ((isW_iff V M).1 h.ok).2.2.2.2.1
      rw [pre_flt hM hst, List.pairwise_append] at hpw
      obtain ⟨-, hp2, hp3⟩ := hpw
      rw [List.pairwise_cons] at hp2
      have key : ∀ o, stB o = false → o ≠ L.getD i zO → dn L (D + 2 ^ i) o → okq (L.getD i zO) o := by
        intro o hso hne hdn
        obtain ⟨k, hk, rfl, hd⟩ := hdn
        have hki : k ≠ i := fun e => hne (by rw [e])
        rw [hbit] at hd
        have hdk : D.testBit k = true := by simpa [hki] using hd
        have hb := h3 k hk
        unfold blB at hb
        rw [hdk] at hb
        simp only [Bool.true_and, Bool.or_eq_false_iff, decide_eq_false_iff_not] at hb
        exact ⟨by omega, by omega⟩
      refine ⟨A, L.getD i zO, B, hM, rfl, fun o ho hso hdn => key o hso (fun e => ?_) hdn, fun o ho hso hdn => ⟨hst, key o hso (fun e => ?_) hdn⟩⟩
      · have := (hp3 o (flt_mem.2 ⟨ho, hso⟩) (L.getD i zO) List.mem_cons_self).1
        rw [e] at this; omega
      · have := (hp2.1 o (flt_mem.2 ⟨ho, hso⟩)).1
        rw [e] at this; omega
theorem inc_inj {L : List Od} (h : ∀ i j, i < j → j < L.length → (L.getD i zO).a < (L.getD j zO).a) {i j : Nat} (hi : i < L.length) (hj : j < L.length) (e : (L.getD i zO).a = (L.getD j zO).a) : i = j := by
  rcases Nat.lt_trichotomy i j with q | q | q
  · have := h i j q hj; omega
  · exact q
  · have := h j i q hi; omega
theorem mem_get {L : List Od} {o : Od} (h : o ∈ L) : ∃ k, k < L.length ∧ L.getD k zO = o := by
  obtain ⟨k, hk, e⟩ := List.getElem_of_mem h
  exact ⟨k, hk, by simp [hk, e]⟩
theorem take_split {M : List Od} {i : Nat} (h : i < M.length) : M = M.take i ++ M.getD i zO :: M.drop (i + 1) := by
  rw [← od_drop h, List.take_append_drop]
theorem cfS_iff {o x : Od} : cfS o x = true ↔ okq x o := by
  unfold cfS okq
  rw [Bool.and_eq_true, decide_eq_true_eq, decide_eq_true_eq]
  constructor
  · rintro ⟨h1, h2⟩; exact ⟨by omega, h2⟩
  · rintro ⟨h1, h2⟩; exact ⟨by omega, h2⟩
/-- Two ways of parting a list. -/
theorem two_parts {X Y A B : List Od} {o r : Od} (h : X ++ o :: Y = A ++ r :: B) :
    (X = A ∧ o = r ∧ Y = B) ∨ (∃ C, A = X ++ o :: C ∧ Y = C ++ r :: B) ∨ ∃ C, X = A ++ r :: C ∧ B = C ++ o :: Y := by
  rcases List.append_eq_append_iff.1 h with ⟨C, h1, h2⟩ | ⟨C, h1, h2⟩
  · cases C with
    | nil =>
      simp only [List.append_nil, List.nil_append, List.cons.injEq] at h1 h2
      exact .inl ⟨h1.symm, h2.1, h2.2⟩
    | cons y C =>
      simp only [List.cons_append, List.cons.injEq] at h2
      exact .inr (.inl ⟨C, by rw [h1, h2.1], h2.2⟩)
  · cases C with
    | nil =>
      simp only [List.append_nil, List.nil_append, List.cons.injEq] at h1 h2
      exact .inl ⟨h1, h2.1.symm, h2.2.symm⟩
    | cons y C =>
      simp only [List.cons_append, List.cons.injEq] at h2
      exact .inr (.inr ⟨C, by rw [h1, h2.1], h2.2⟩)
theorem gone_conf {L : List Od} {D : Nat} {v c : Int} {V : List Int} {M : List Od} (h : Tr L D v c V M) {k i : Nat} (hk : k < L.length) (hd : D.testBit k = true) (hi : i < M.length) (ho : M.getD i zO = L.getD k zO) : Gone L D c (cfO M i) := by
  intro j hj
  rcases h.gone j hj with q | q | q | q
  · by_cases hjk : j = k
    · subst hjk; exact .inr (.inl hd)
    · by_cases hs : okq (L.getD j zO) (L.getD k zO)
      · left
        unfold cfO
        refine List.mem_append.2 (.inl (List.mem_filter.2 ⟨?_, by rw [ho]; exact cfS_iff.2 hs⟩))
        have hst := not_st (h.vals _ (getD_mem hj))
        rw [take_split hi] at q
        rcases List.mem_append.1 q with q | q
        · exact List.mem_append.2 (.inl (flt_mem.2 ⟨q, hst⟩))
        · rcases List.mem_cons.1 q with e | q
          · rw [ho] at e
            exact absurd (inc_inj h.inc hj hk (by rw [e])) hjk
          · exact List.mem_append.2 (.inr q)
      · refine .inr (.inr (.inr ⟨k, hk, ?_⟩))
        unfold blB
        rw [hd]
        unfold okq at hs
        simp only [Bool.true_and, Bool.or_eq_true, decide_eq_true_eq]
        omega
  · exact .inr (.inl q)
  · exact .inr (.inr (.inl q))
  · exact .inr (.inr (.inr q))
/-- A confirmation arrives of an order that was executed. -/
theorem Tr.conf {L : List Od} {D : Nat} {v c : Int} {V : List Int} {M : List Od} (h : Tr L D v c V M) {k : Nat} (hk : k < L.length) (hd : D.testBit k = true) (hs : cfE (L.getD k zO).a M = 0) :
    Tr L D v c (rV 0 (cfM (L.getD k zO).a M)) (rM 0 (cfM (L.getD k zO).a M)) := by
  have hw := conf_ok h.ok hs
  rw [rM_z] at hw ⊢
  obtain ⟨i, -, hi, hp, hm⟩ := cf_some hs
  have hfl : stB (M.getD i zO) = false ∧ (M.getD i zO).a = (L.getD k zO).a := by
    unfold cfP at hp
    rw [Bool.and_eq_true, decide_eq_true_eq] at hp
    exact ⟨by simpa using hp.1, hp.2⟩
  have ho : M.getD i zO = L.getD k zO := by
    obtain ⟨k', hk', e⟩ := mem_get (h.fly _ (getD_mem hi) hfl.1)
    have : k' = k := inc_inj h.inc hk' hk (by rw [e]; exact hfl.2)
    rw [← e, this]
  have hgone := gone_conf h hk hd hi ho
  have hdn : dn L D (M.getD i zO) := ⟨k, hk, ho.symm, hd⟩
  have hsp := take_split hi
  have hcf : cfO M i = (flt (M.take i) ++ M.drop (i + 1)).filter (cfS (M.getD i zO)) ++ [{ M.getD i zO with c := -1 }] := rfl
  rw [hm] at hw ⊢
  generalize M.take i = X at *
  generalize M.drop (i + 1) = Y at *
  have hoa : (M.getD i zO).a ≤ tpf D L c L.length := by rw [ho]; exact (tpf_prop D L c L.length).2.1 k hk hd
  generalize M.getD i zO = o at *
  have hst : stB ({ o with c := -1 } : Od) = true := stB_iff.2 rfl
  have hsub : ∀ x ∈ (flt X ++ Y).filter (cfS o), x ∈ M := fun x hx => by
    rw [hsp]
    rcases List.mem_append.1 (List.mem_filter.1 hx).1 with q | q
    · exact List.mem_append.2 (.inl (flt_mem.1 q).1)
    · exact List.mem_append.2 (.inr (List.mem_cons_of_mem _ q))
  refine ⟨h.len, h.bits, h.vals, h.inc, h.cl, hw, fun x hx hxs => ?_, hgone, fun x hx hxs => ?_, ?_⟩
  · rw [hcf] at hx
    rcases List.mem_append.1 hx with q | q
    · exact h.fly x (hsub x q) hxs
    · obtain rfl : x = { o with c := -1 } := by simpa using q
      rw [hst] at hxs; cases hxs
  · rw [hcf] at hx
    rcases List.mem_append.1 hx with q | q
    · exact h.set x (hsub x q) hxs
    · obtain rfl : x = { o with c := -1 } := by simpa using q
      exact hoa
  · obtain ⟨A, r, B, hM, hr, hA, hB⟩ := h.src
    rw [hcf]
    rw [hM] at hsp
    rcases two_parts hsp.symm with ⟨rfl, rfl, rfl⟩ | ⟨C, rfl, rfl⟩ | ⟨C, rfl, rfl⟩
    · refine ⟨_, { o with c := -1 }, [], rfl, hr, fun x hx hxs hxd => ?_, fun x hx => (by cases hx)⟩
      rcases List.mem_append.1 (List.mem_filter.1 hx).1 with q | q
      · exact hA x (flt_mem.1 q).1 hxs hxd
      · exact (hB x q hxs hxd).2
    · have hok := hA o (by simp) hfl.1 hdn
      refine ⟨(flt X ++ C).filter (cfS o), r, B.filter (cfS o) ++ [{ o with c := -1 }], ?_, hr, fun x hx hxs hxd => ?_, fun x hx hxs hxd => ?_⟩
      · rw [← List.append_assoc, List.filter_append, List.filter_cons, if_pos (cfS_iff.2 hok)]; simp
      · rcases List.mem_append.1 (List.mem_filter.1 hx).1 with q | q
        · exact hA x (List.mem_append.2 (.inl (flt_mem.1 q).1)) hxs hxd
        · exact hA x (List.mem_append.2 (.inr (List.mem_cons_of_mem _ q))) hxs hxd
      · rcases List.mem_append.1 hx with q | q
        · exact hB x (List.mem_filter.1 q).1 hxs hxd
        · obtain rfl : x = { o with c := -1 } := by simpa using q
          rw [hst] at hxs; cases hxs
    · obtain ⟨hrs, hok⟩ := hB o (by simp) hfl.1 hdn
      refine ⟨(flt A).filter (cfS o), r, (flt C ++ Y).filter (cfS o) ++ [{ o with c := -1 }], ?_, hr, fun x hx hxs hxd => ?_, fun x hx hxs hxd => ?_⟩
      · rw [pre_flt rfl hrs]
        simp only [List.append_assoc, List.cons_append, List.filter_append, List.filter_cons, if_pos (cfS_iff.2 hok)]
      · exact hA x (flt_mem.1 (List.mem_filter.1 hx).1).1 hxs hxd
      · rcases List.mem_append.1 hx with q | q
        · rcases List.mem_append.1 (List.mem_filter.1 q).1 with q | q
          · exact hB x (List.mem_append.2 (.inl (flt_mem.1 q).1)) hxs hxd
          · exact hB x (List.mem_append.2 (.inr (List.mem_cons_of_mem _ q))) hxs hxd
        · obtain rfl : x = { o with c := -1 } := by simpa using q
          rw [hst] at hxs; cases hxs
/-- The device reports. -/
theorem Tr.rep {L : List Od} {D : Nat} {v c : Int} {V : List Int} {M : List Od} (h : Tr L D v c V M) : rpE V M v (tpf D L c L.length) = 0 ∧
    Tr L D v (tpf D L c L.length) (rV 0 (rpM M v (tpf D L c L.length))) (rM 0 (rpM M v (tpf D L c L.length))) := by
  obtain ⟨t1, t2, t3⟩ := tpf_prop D L c L.length
  have hcan := h.can
  have hset := h.set
  generalize tpf D L c L.length = T at *
  have hcl := h.cl
  have hT : -1 ≤ T ∧ T ≤ 1000000000 := by
    rcases t3 with e | ⟨i, hi, -, e⟩
    · omega
    · have := (isO_parts (h.vals _ (getD_mem hi))).1; omega
  have hE : rpE V M v T = 0 := by
    unfold rpE
    rw [if_neg (by rw [inr_iff.2 hT]; simp), if_neg]
    simp only [Bool.or_eq_true, not_or, Bool.not_eq_true', Bool.not_eq_false, List.any_eq_true, not_exists, not_and]
    refine ⟨hcan, fun x hx => ?_⟩
    obtain ⟨h1, h2⟩ := List.mem_filter.1 hx
    have := hset x h1 h2
    unfold rpT
    simp only [decide_eq_true_eq]
    omega
  have hw := rep_ok h.ok hE
  rw [rM_z] at hw ⊢
  have hst : stB ⟨T, rpB T M, -1, v⟩ = true := stB_iff.2 rfl
  have htp : tpf D L T L.length = T := by
    obtain ⟨u1, u2, u3⟩ := tpf_prop D L T L.length
    rcases u3 with e | ⟨i, hi, hd, e⟩
    · exact e
    · have := t2 i hi hd; omega
  have hmem : ∀ x ∈ (flt M).filter (rpT T), x ∈ M ∧ stB x = false ∧ T < x.a := fun x hx => by
    obtain ⟨h1, h2⟩ := List.mem_filter.1 hx
    obtain ⟨h3, h4⟩ := flt_mem.1 h1
    exact ⟨h3, h4, by unfold rpT at h2; exact of_decide_eq_true h2⟩
  refine ⟨hE, h.len, h.bits, h.vals, h.inc, hT, hw, fun x hx hxs => ?_, fun j hj => ?_, fun x hx hxs => ?_, ?_⟩
  · unfold rpM at hx
    rcases List.mem_cons.1 hx with rfl | hx
    · rw [hst] at hxs; cases hxs
    · exact h.fly x (hmem x hx).1 hxs
  · rcases h.gone j hj with q | q | q | q
    · by_cases hjt : (L.getD j zO).a ≤ T
      · exact .inr (.inr (.inl hjt))
      · left
        unfold rpM
        refine List.mem_cons_of_mem _ (List.mem_filter.2 ⟨flt_mem.2 ⟨q, not_st (h.vals _ (getD_mem hj))⟩, ?_⟩)
        unfold rpT; exact decide_eq_true (by omega)
    · exact .inr (.inl q)
    · exact .inr (.inr (.inl (by omega)))
    · exact .inr (.inr (.inr q))
  · rw [htp]
    unfold rpM at hx
    rcases List.mem_cons.1 hx with rfl | hx
    · exact Int.le_refl _
    · rw [(hmem x hx).2.1] at hxs; cases hxs
  · refine ⟨[], ⟨T, rpB T M, -1, v⟩, (flt M).filter (rpT T), rfl, rfl, fun x hx => (by cases hx), fun x hx hxs hxd => ?_⟩
    obtain ⟨k, hk, e, hd⟩ := hxd
    have h1 := t2 k hk hd
    rw [e] at h1
    have := (hmem x hx).2.2
    omega
end Go.Proofs.Ytigpopemllamdaa
