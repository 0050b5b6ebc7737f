/- Shedding: the sort keeps the elements; insertion; the sorted list of a range; blocks. -/
import Derived.Test.YtpablikcidlkaaaSg
namespace Go.Proofs.Ytpablikcidlkaaa

theorem mvR_perm (a n : Nat) (L : List Nat) (h : a + n < L.length) : (mvR a n L).Perm L := by
  obtain ⟨A, x, B, rfl, hA, -⟩ := cut_el (l := L) (k := a) (by omega)
  have hl : A.length + (B.length + 1) = (A ++ x :: B).length := by simp
  obtain ⟨v, C, rfl, hv⟩ := cut_at (l := B) (k := n) (by omega)
  rw [mvR_is v A C x a n hA.symm hv.symm]
  exact List.Perm.append_left _ List.perm_middle
theorem mvL_perm (m n : Nat) (L : List Nat) (h : m < L.length) (hn : n ≤ m) : (mvL m n L).Perm L := by
  obtain ⟨A, x, B, rfl, hA, -⟩ := cut_el (l := L) (k := m) h
  obtain ⟨A', u, rfl, hA'⟩ := cut_at (l := A) (k := m - n) (by omega)
  have hu : n = u.length := by rw [List.length_append] at hA; omega
  have e : (A' ++ u) ++ x :: B = A' ++ (u ++ x :: B) := by simp
  rw [e, mvL_is n u A' B x m (by omega) hu]
  exact List.Perm.append_left _ List.perm_middle.symm
theorem rota_perm (a m b : Nat) (L : List Nat) (h1 : a < m) (h2 : m < b) (h3 : b ≤ L.length) : (rota a m b L).Perm L := by
  obtain ⟨A, R, rfl, hA⟩ := cut_at (l := L) (k := a) (by omega)
  rw [List.length_append] at h3
  obtain ⟨X, R', rfl, hX⟩ := cut_at (l := R) (k := m - a) (by omega)
  rw [List.length_append] at h3
  obtain ⟨Y, B, rfl, hY⟩ := cut_at (l := R') (k := b - m) (by omega)
  have := rot_is (b - a) X Y A B m (by omega) (by intro e; rw [e] at hX; simp at hX; omega) (by intro e; rw [e] at hY; simp at hY; omega) (by omega)
  unfold rota
  rw [← hX, ← hY, this]
  refine List.Perm.append_left _ ?_
  rw [← List.append_assoc, ← List.append_assoc]
  exact List.Perm.append_right _ List.perm_append_comm
theorem rotc_perm (a m b : Nat) (L : List Nat) (h3 : b ≤ L.length) : (rotc a m b L).Perm L := by
  unfold rotc
  split
  · rename_i h
    simp only [Bool.and_eq_true, decide_eq_true_eq] at h
    exact rota_perm a m b L h.1 h.2 h3
  · exact List.Perm.refl _
theorem sst_in (P : Nat → Int) (a m b : Nat) (L : List Nat) (h1 : a < m) (h2 : m < b) : a ≤ sst P a m b L ∧ sst P a m b L ≤ (a + b) / 2 ∧ sst P a m b L ≤ m ∧ (a + b) / 2 + m ≤ sst P a m b L + b := by
  unfold sst
  split
  · have := srch_in (fun c => !lessAt P L ((a + b) / 2 + m - 1 - c) c) _ ((a + b) / 2 + m - b) ((a + b) / 2) rfl (by omega)
    omega
  · have := srch_in (fun c => !lessAt P L ((a + b) / 2 + m - 1 - c) c) _ a m rfl (by omega)
    omega
theorem symM_perm (P : Nat → Int) : ∀ (f a m b : Nat) (L : List Nat), a < m → m < b → b ≤ L.length → (symM P f a m b L).Perm L
  | 0, a, m, b, L, _, _, _ => List.Perm.refl _
  | f + 1, a, m, b, L, h1, h2, h3 => by
    unfold symM
    split
    · have := srch_in (fun h => lessAt P L h a) _ m b rfl (by omega)
      exact mvR_perm _ _ _ (by omega)
    · split
      · exact mvL_perm _ _ _ (by omega) (by omega)
      · have hs := sst_in P a m b L h1 h2
        simp only
        have p1 := rotc_perm (sst P a m b L) m ((a + b) / 2 + m - sst P a m b L) L (by omega)
        have l1 := p1.length_eq
        have p2 : (if (decide (a < sst P a m b L) && decide (sst P a m b L < (a + b) / 2)) = true then symM P f a (sst P a m b L) ((a + b) / 2) (rotc (sst P a m b L) m ((a + b) / 2 + m - sst P a m b L) L) else rotc (sst P a m b L) m ((a + b) / 2 + m - sst P a m b L) L).Perm L := by
          split
          · rename_i hc
            simp only [Bool.and_eq_true, decide_eq_true_eq] at hc
            exact (symM_perm P f _ _ _ _ hc.1 hc.2 (by omega)).trans p1
          · exact p1
        have l2 := p2.length_eq
        split
        · rename_i hc
          simp only [Bool.and_eq_true, decide_eq_true_eq] at hc
          exact (symM_perm P f _ _ _ _ hc.1 hc.2 (by omega)).trans p2
        · exact p2
/-- One element sinks into a sorted list. -/
theorem insD_is (P : Nat → Int) : ∀ (n : Nat) (A S B : List Nat) (y a i : Nat), n = S.length → a = A.length → i = a + S.length → Srt P S → (∀ x ∈ S, x < y) →
    ∃ s, insD P a i (A ++ (S ++ y :: B)) = A ++ (s ++ B) ∧ Mrg P S [y] s
  | 0, A, S, B, y, a, i, hn, ha, hi, hs, hl => by
    have : S = [] := List.length_eq_zero_iff.1 hn.symm
    subst this
    refine ⟨[y], ?_, mrg_nil_l (by simp [Srt])⟩
    have : i = a := by simpa using hi
    subst this
    rw [show insD P i i (A ++ ([] ++ y :: B)) = A ++ ([] ++ y :: B) from ?_]
    · simp
    · cases i with
      | zero => rfl
      | succ k => unfold insD; simp
  | n + 1, A, S, B, y, a, i, hn, ha, hi, hs, hl => by
    obtain ⟨S', z, rfl⟩ : ∃ S' z, S = S' ++ [z] := by
      have hne : S ≠ [] := by intro e; rw [e] at hn; simp at hn
      exact ⟨S.dropLast, S.getLast hne, (List.dropLast_concat_getLast hne).symm⟩
    have hl' : S'.length = n := by simp at hn; omega
    obtain ⟨k, rfl⟩ : ∃ k, i = k + 1 := ⟨a + n, by simp at hi; omega⟩
    have hk : k = (A ++ S').length := by simp at hi ⊢; omega
    have e : A ++ (S' ++ [z] ++ y :: B) = (A ++ S') ++ z :: y :: B := by simp
    unfold insD
    rw [e, sw_next hk]
    have g1 : ((A ++ S') ++ z :: y :: B).getD k 0 = z := getD_mid hk
    have g2 : ((A ++ S') ++ z :: y :: B).getD (k + 1) 0 = y := by
      have : (A ++ S') ++ z :: y :: B = ((A ++ S') ++ [z]) ++ y :: B := by simp
      rw [this]; exact getD_mid (by simp [hk]; omega)
    have hak : decide (a < k + 1) = true := by simp; simp at hk; omega
    obtain ⟨s1, s2, s3⟩ := List.pairwise_append.1 hs
    have hzy := hl z (by simp)
    unfold lessAt
    rw [g1, g2, hak, Bool.true_and]
    split
    · rename_i hc
      have hc : P z < P y := by simpa using hc
      obtain ⟨s, h1, h2⟩ := insD_is P n A S' (z :: B) y a k hl'.symm ha (by simp at hk; omega) s1 (fun x hx => hl x (by simp [hx]))
      refine ⟨s ++ [z], by simpa using h1, ?_, ?_⟩
      · refine (List.Perm.append_right [z] h2.1).trans ?_
        rw [List.append_assoc, List.append_assoc]
        exact List.Perm.append_left _ List.perm_append_comm
      · refine srt_join h2.2 s2 ?_
        intro x hx w hw
        have hw : w = z := by simpa using hw
        subst hw
        rcases List.mem_append.1 (h2.1.subset hx) with hx | hx
        · exact s3 x hx w (by simp)
        · have hx : x = y := by simpa using hx
          subst hx
          exact .inl hc
    · rename_i hc
      have hc : P y ≤ P z := by simpa using hc
      refine ⟨S' ++ [z] ++ [y], by simp, ⟨List.Perm.refl _, ?_⟩⟩
      refine srt_join hs (by simp [Srt]) (join_of_ends hs (by simp [Srt]) ?_)
      intro a' x y' b' h1 h2
      have h1 : z = x := by have := List.append_inj' h1 rfl; simpa using this.2
      have h2 : y = y' := (List.cons.inj h2).1
      subst h1 h2
      unfold bef; omega
/-- All of a part sink. -/
theorem insI_is (P : Nat → Int) : ∀ (T S A B : List Nat) (a i : Nat), a = A.length → i = a + S.length → Srt P S → (∀ x ∈ S, ∀ y ∈ T, x < y) → T.Pairwise (· < ·) →
    ∃ s, insI P a i T.length (A ++ (S ++ (T ++ B))) = A ++ (s ++ B) ∧ s.Perm (S ++ T) ∧ Srt P s
  | [], S, A, B, a, i, ha, hi, hs, hl, ht => ⟨S, by simp [insI], by simp, hs⟩
  | y :: T, S, A, B, a, i, ha, hi, hs, hl, ht => by
    obtain ⟨t1, t2⟩ := List.pairwise_cons.1 ht
    obtain ⟨s, h1, h2⟩ := insD_is P S.length A S (T ++ B) y a i rfl ha hi hs (fun x hx => hl x hx y (by simp))
    show ∃ s, insI P a (i + 1) T.length (insD P a i (A ++ (S ++ (y :: T ++ B)))) = _ ∧ _
    rw [List.cons_append, h1]
    have hp : ∀ x ∈ s, x ∈ S ∨ x = y := fun x hx => by
      rcases List.mem_append.1 (h2.1.subset hx) with h | h
      · exact .inl h
      · exact .inr (by simpa using h)
    obtain ⟨s', g1, g2, g3⟩ := insI_is P T s A B a (i + 1) ha (by rw [h2.1.length_eq]; simp; omega) h2.2 (fun x hx z hz => by
      rcases hp x hx with h | h
      · exact hl x h z (by simp [hz])
      · subst h; exact t1 z hz) t2
    refine ⟨s', g1, ?_, g3⟩
    refine g2.trans ?_
    refine (List.Perm.append_right T h2.1).trans ?_
    rw [List.append_assoc]
    exact List.Perm.refl _
/-- A part is the range, sorted. -/
def IsST (P : Nat → Int) (a b : Nat) (s : List Nat) : Prop := s.Perm (List.range' a (b - a)) ∧ Srt P s
theorem IsST.len {P : Nat → Int} {a b : Nat} {s : List Nat} (h : IsST P a b s) : s.length = b - a := by rw [h.1.length_eq, List.length_range']
theorem IsST.mem {P : Nat → Int} {a b x : Nat} {s : List Nat} (h : IsST P a b s) (hx : x ∈ s) : a ≤ x ∧ x < b := by
  have := h.1.subset hx
  rw [List.mem_range'_1] at this
  omega
theorem IsST.eq {P : Nat → Int} {a b : Nat} {s t : List Nat} (h : IsST P a b s) (k : IsST P a b t) : s = t := srt_eq h.2 k.2 (h.1.trans k.1.symm)
theorem isST_nil (P : Nat → Int) (a : Nat) : IsST P a a [] := ⟨by simp, List.Pairwise.nil⟩
theorem isST_one (P : Nat → Int) (a : Nat) : IsST P a (a + 1) [a] := ⟨by simp, by simp [Srt]⟩
theorem range_cut {a m b : Nat} (h1 : a ≤ m) (h2 : m ≤ b) : List.range' a (b - a) = List.range' a (m - a) ++ List.range' m (b - m) := by
  rw [show b - a = (m - a) + (b - m) by omega, ← List.range'_append_1, show a + (m - a) = m by omega]
/-- Insertion sorts a part. -/
theorem ins_st (P : Nat → Int) (A B : List Nat) (a b : Nat) (ha : a = A.length) (hab : a ≤ b) : ∃ s, ins P a b (A ++ (List.range' a (b - a) ++ B)) = A ++ (s ++ B) ∧ IsST P a b s := by
  unfold ins
  by_cases h : a = b
  · subst h
    exact ⟨[], by simp [insI], isST_nil P a⟩
  · have e : List.range' a (b - a) = [a] ++ List.range' (a + 1) (b - (a + 1)) := by
      rw [range_cut (a := a) (m := a + 1) (b := b) (by omega) (by omega)]
      simp
    obtain ⟨s, h1, h2, h3⟩ := insI_is P (List.range' (a + 1) (b - (a + 1))) [a] A B a (a + 1) ha (by simp) (by simp [Srt]) (fun x hx y hy => by
      have hx : x = a := by simpa using hx
      rw [List.mem_range'_1] at hy
      omega) List.pairwise_lt_range'
    rw [List.length_range'] at h1
    rw [e]
    refine ⟨s, by simpa using h1, ?_, h3⟩
    rw [e]
    exact h2
/-- Two neighbours are merged. -/
theorem sym_st (P : Nat → Int) (A u v B : List Nat) (f a m b : Nat) (ha : a = A.length) (h1 : a < m) (h2 : m < b) (hf : b - a ≤ f) (hu : IsST P a m u) (hv : IsST P m b v) :
    ∃ s, symM P f a m b (A ++ (u ++ (v ++ B))) = A ++ (s ++ B) ∧ IsST P a b s := by
  have lu := hu.len
  have lv := hv.len
  obtain ⟨s, g1, g2⟩ := symM_is P f A u v B a m b ha (by omega) (by omega) hf (by intro e; rw [e] at lu; simp at lu; omega) (by intro e; rw [e] at lv; simp at lv; omega) hu.2 hv.2 (fun x hx y hy => by
    have := (hu.mem hx).2
    have := (hv.mem hy).1
    omega)
  refine ⟨s, g1, ?_, g2.2⟩
  refine g2.1.trans ?_
  rw [range_cut (a := a) (m := m) (b := b) (by omega) (by omega)]
  exact List.Perm.append hu.1 hv.1
/-- Sorted blocks from a on. -/
inductive Blks (P : Nat → Int) (s n : Nat) : Nat → List Nat → Prop
  | last {a : Nat} {L : List Nat} (h1 : a ≤ n) (h2 : n ≤ a + s) (h : IsST P a n L) : Blks P s n a L
  | cons {a : Nat} {X L : List Nat} (h1 : a + s < n) (h : IsST P a (a + s) X) (k : Blks P s n (a + s) L) : Blks P s n a (X ++ L)
/-- Whole sorted blocks up to a. -/
inductive Pres (P : Nat → Int) (s : Nat) : Nat → List Nat → Prop
  | nil : Pres P s 0 []
  | snoc {a : Nat} {A X : List Nat} (h : Pres P s a A) (k : IsST P a (a + s) X) : Pres P s (a + s) (A ++ X)
theorem Pres.len {P : Nat → Int} {s a : Nat} {A : List Nat} (h : Pres P s a A) : A.length = a := by
  induction h with
  | nil => rfl
  | snoc h k ih => rw [List.length_append, ih, k.len]; omega
theorem pres_join {P : Nat → Int} {s n a : Nat} {A : List Nat} (h : Pres P s a A) : ∀ B, Blks P s n a B → a ≤ n → Blks P s n 0 (A ++ B) := by
  induction h with
  | nil => intro B hb _; exact hb
  | @snoc a A X h k ih =>
    intro B hb hn
    rw [List.append_assoc]
    refine ih _ ?_ (by omega)
    by_cases hlt : a + s < n
    · exact .cons hlt k hb
    · have hn2 : n = a + s := by omega
      subst hn2
      have : B = [] := by
        cases hb with
        | last h1 h2 h => have := h.len; rw [Nat.sub_self] at this; exact List.length_eq_zero_iff.1 this
        | cons h1 h k => omega
      subst this
      rw [List.append_nil]
      exact .last (by omega) (by omega) k
theorem Blks.le {P : Nat → Int} {s n a : Nat} {L : List Nat} (h : Blks P s n a L) : a ≤ n := by cases h <;> omega
theorem Blks.one {P : Nat → Int} {s n : Nat} {L : List Nat} (h : Blks P s n 0 L) (hs : n ≤ s) : IsST P 0 n L := by
  cases h with
  | last h1 h2 h => exact h
  | cons h1 h k => omega
/-- A whole pair of blocks lies ahead. -/
theorem Blks.pair {P : Nat → Int} {s n a : Nat} {L : List Nat} (h : Blks P s n a L) (hs : 0 < s) (hb : a + 2 * s ≤ n) : ∃ u v B, L = u ++ (v ++ B) ∧ IsST P a (a + s) u ∧ IsST P (a + s) (a + 2 * s) v ∧ Blks P s n (a + 2 * s) B := by
  cases h with
  | last h1 h2 h => omega
  | cons h1 h k =>
    rename_i X L'
    have e : a + s + s = a + 2 * s := by omega
    cases k with
    | last h1 h2 h3 =>
      have hn : n = a + 2 * s := by omega
      refine ⟨X, L', [], by simp, h, by rw [← hn]; exact h3, ?_⟩
      rw [← hn]
      exact .last (by omega) (by omega) (isST_nil P n)
    | cons h1 h3 k2 => 
      rename_i Y B
      exact ⟨X, Y, B, rfl, h, by rw [← e]; exact h3, by rw [← e]; exact k2⟩
/-- One and a part of a block lie ahead. -/
theorem Blks.rest {P : Nat → Int} {s n a : Nat} {L : List Nat} (h : Blks P s n a L) (hm : a + s < n) (hb : n < a + 2 * s) : ∃ u v, L = u ++ (v ++ []) ∧ IsST P a (a + s) u ∧ IsST P (a + s) n v := by
  cases h with
  | last h1 h2 h => omega
  | cons h1 h k =>
    rename_i X L'
    cases k with
    | last h1 h2 h3 => exact ⟨X, L', by simp, h, h3⟩
    | cons h1 h3 k2 => omega
theorem Blks.short {P : Nat → Int} {s n a : Nat} {L : List Nat} (h : Blks P s n a L) (hm : ¬ a + s < n) : IsST P a n L := by
  cases h with
  | last h1 h2 h => exact h
  | cons h1 h k => omega
theorem Blks.perm {P : Nat → Int} {s n a : Nat} {L : List Nat} (h : Blks P s n a L) : L.Perm (List.range' a (n - a)) := by
  induction h with
  | last h1 h2 h => exact h.1
  | cons h1 h k ih => 
    rw [range_cut (Nat.le_add_right _ _) (Nat.le_of_lt h1)]
    exact List.Perm.append h.1 ih
theorem Pres.perm {P : Nat → Int} {s a : Nat} {A : List Nat} (h : Pres P s a A) : A.Perm (List.range' 0 a) := by
  induction h with
  | nil => simp
  | snoc h k ih => 
    rename_i a A X
    have := range_cut (a := 0) (m := a) (b := a + s) (by omega) (by omega)
    simp only [Nat.sub_zero] at this
    rw [this]
    exact List.Perm.append ih (by simpa using k.1)
end Go.Proofs.Ytpablikcidlkaaa
