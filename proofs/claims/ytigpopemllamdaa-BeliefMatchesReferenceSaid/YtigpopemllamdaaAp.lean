/- Beliefs: the values of records are the numbers from 0 to 15 that some record has (plain facts). -/
import Derived.Test.YtigpopemllamdaaAw
namespace Go.Proofs.Ytigpopemllamdaa

theorem lt_ext : ∀ (l m : List Int), l.Pairwise (· < ·) → m.Pairwise (· < ·) → (∀ x, x ∈ l ↔ x ∈ m) → l = m := by
  intro l
  induction l with
  | nil =>
    intro m _ _ h
    cases m with
    | nil => rfl
    | cons y m => exact absurd ((h y).2 (by simp)) (by simp)
  | cons x l ih =>
    intro m hl hm h
    cases m with
    | nil => exact absurd ((h x).1 (by simp)) (by simp)
    | cons y m =>
      rw [List.pairwise_cons] at hl hm
      have hxy : x = y := by
        have h1 := (h x).1 (by simp)
        have h2 := (h y).2 (by simp)
        rcases List.mem_cons.1 h1 with e | h1
        · exact e
        · rcases List.mem_cons.1 h2 with e | h2
          · exact e.symm
          · have := hm.1 x h1
            have := hl.1 y h2
            omega
      subst hxy
      rw [ih m hl.2 hm.2 fun z => ?_]
      have hz := h z
      simp only [List.mem_cons] at hz
      constructor
      · intro hzl
        have := hl.1 z hzl
        rcases hz.1 (.inr hzl) with e | h
        · omega
        · exact h
      · intro hzm
        have := hm.1 z hzm
        rcases hz.2 (.inr hzm) with e | h
        · omega
        · exact h
theorem comp_up (d : Array Int) (hs : ∀ i j, i ≤ j → j < d.size → d[i]! ≤ d[j]!) : ∀ m, m ≤ d.size → (Lib.compactUpTo d m).Pairwise (· < ·) ∧ ∀ x, x ∈ Lib.compactUpTo d m ↔ ∃ j, j < m ∧ d[j]! = x := by
  intro m
  induction m with
  | zero => intro _; exact ⟨by simp [Lib.compactUpTo], fun x => by simp [Lib.compactUpTo]⟩
  | succ m ih =>
    intro hm
    obtain ⟨h1, h2⟩ := ih (by omega)
    rw [Lib.compactUpTo_succ]
    cases hk : Lib.keeps d m
    · have hk' : ¬ (m = 0 ∨ d[m]! ≠ d[m - 1]!) := by
        intro h
        have : Lib.keeps d m = true := by unfold Lib.keeps; exact decide_eq_true h
        rw [hk] at this; cases this
      have hm0 : m ≠ 0 := fun e => hk' (.inl e)
      have he : d[m]! = d[m - 1]! := Decidable.not_not.1 fun e => hk' (.inr e)
      simp only [Bool.false_eq_true, if_false, List.append_nil]
      refine ⟨h1, fun x => ?_⟩
      rw [h2]
      constructor
      · rintro ⟨j, hj, e⟩; exact ⟨j, by omega, e⟩
      · rintro ⟨j, hj, e⟩
        by_cases hjm : j = m
        · subst hjm; exact ⟨j - 1, by omega, by rw [← he]; exact e⟩
        · exact ⟨j, by omega, e⟩
    · have hk' : m = 0 ∨ d[m]! ≠ d[m - 1]! := by
        unfold Lib.keeps at hk; exact of_decide_eq_true hk
      simp only [if_true]
      refine ⟨?_, fun x => ?_⟩
      · rw [List.pairwise_append]
        refine ⟨h1, by simp, fun a ha b hb => ?_⟩
        obtain rfl : b = d[m]! := by simpa using hb
        obtain ⟨j, hj, rfl⟩ := (h2 a).1 ha
        have e1 := hs j (m - 1) (by omega) (by omega)
        have e2 := hs (m - 1) m (by omega) (by omega)
        rcases hk' with e | e
        · omega
        · have : d[m]! ≠ d[m - 1]! := e
          omega
      · rw [List.mem_append, h2]
        constructor
        · rintro (⟨j, hj, e⟩ | h)
          · exact ⟨j, by omega, e⟩
          · exact ⟨m, by omega, (by simpa using h : x = d[m]!).symm⟩
        · rintro ⟨j, hj, e⟩
          by_cases hjm : j = m
          · subst hjm; right; rw [e]; simp
          · left; exact ⟨j, by omega, e⟩
theorem vof_prop (L : List Od) : (vof L).Pairwise (· < ·) ∧ ∀ x, x ∈ vof L ↔ ∃ o ∈ L, o.d = x := by
  unfold vof Lib.compact
  have hp := List.mergeSort_perm (L.map Od.d) (fun x y => decide (x ≤ y))
  have hs := List.pairwise_mergeSort (le := fun x y : Int => decide (x ≤ y)) (by intro a b c; simp; omega) (by intro a b; simp; omega) (L.map Od.d)
  generalize (L.map Od.d).mergeSort (fun x y => decide (x ≤ y)) = zs at *
  have hget : ∀ i, i < zs.length → zs.toArray[i]! = zs.getD i 0 := fun i hi => by simp [getElem!_pos, hi]
  obtain ⟨h1, h2⟩ := comp_up zs.toArray (fun i j hij hj => by
    have hj' : j < zs.length := by simpa using hj
    rw [hget i (by omega), hget j hj']
    by_cases e : i = j
    · subst e; omega
    · have := (List.pairwise_iff_getElem.1 hs) i j (by omega) hj' (by omega)
      have hii : i < zs.length := by omega
      simp [hj', hii]
      simpa using this) zs.length (by simp)
  refine ⟨h1, fun x => ?_⟩
  rw [h2]
  have : (∃ o ∈ L, o.d = x) ↔ x ∈ zs := by rw [hp.mem_iff, List.mem_map]
  rw [this]
  constructor
  · rintro ⟨j, hj, e⟩
    rw [hget j hj] at e
    rw [← e]
    simp [hj]
  · intro hx
    obtain ⟨j, hj, e⟩ := List.getElem_of_mem hx
    exact ⟨j, hj, by rw [hget j hj]; simp [hj, e]⟩
/-- The reference's values. -/
def rvl (L : List Od) : List Int := ((List.range 16).map fun n : Nat => (n : Int)).filter fun v => L.any fun o => decide (o.d = v)
theorem rvl_prop (L : List Od) : (rvl L).Pairwise (· < ·) ∧ ∀ x, x ∈ rvl L ↔ (0 ≤ x ∧ x < 16) ∧ ∃ o ∈ L, o.d = x := by
  unfold rvl
  refine ⟨?_, fun x => ?_⟩
  · refine List.Pairwise.filter _ ?_
    decide
  · rw [List.mem_filter, List.mem_map]
    constructor
    · rintro ⟨⟨n, hn, rfl⟩, h⟩
      rw [List.mem_range] at hn
      refine ⟨⟨by omega, by omega⟩, ?_⟩
      rw [List.any_eq_true] at h
      obtain ⟨o, ho, h⟩ := h
      exact ⟨o, ho, of_decide_eq_true h⟩
    · rintro ⟨⟨h1, h2⟩, o, ho, rfl⟩
      refine ⟨⟨o.d.toNat, by rw [List.mem_range]; omega, by omega⟩, ?_⟩
      rw [List.any_eq_true]
      exact ⟨o, ho, by simp⟩
theorem vof_rvl {L : List Od} (h : ∀ o ∈ L, 0 ≤ o.d ∧ o.d < 16) : vof L = rvl L := by
  refine lt_ext _ _ (vof_prop L).1 (rvl_prop L).1 fun x => ?_
  rw [(vof_prop L).2, (rvl_prop L).2]
  constructor
  · rintro ⟨o, ho, rfl⟩; exact ⟨h o ho, o, ho, rfl⟩
  · rintro ⟨-, h⟩; exact h
theorem wk_val : ∀ (L : List Od) (l : Od), wk l L = true → ∀ x ∈ L, okR x = true := by
  intro L
  induction L with
  | nil => intro l _ x hx; cases hx
  | cons y L ih =>
    intro l h x hx
    unfold wk at h
    rw [Bool.and_eq_true] at h
    rcases List.mem_cons.1 hx with rfl | hx
    · exact h.1
    · by_cases hs : stB y = true
      · rw [if_pos hs] at h; exact ih _ h.2 x hx
      · rw [if_neg hs, Bool.and_eq_true] at h; exact ih _ h.2.2 x hx
theorem okR_d {x : Od} (h : okR x = true) : 0 ≤ x.d ∧ x.d < 16 := by
  unfold okR at h
  simp only [Bool.and_eq_true, inr_iff] at h
  omega
/-- Well-formed, with the reference's values. -/
def isW (V : List Int) (L : List Od) : Bool := decide ((flt L).length ≤ 8) && decide (L.length ≤ 20) && L.any stB && wk l0 L && (V == rvl L)
theorem isV_W (V : List Int) (L : List Od) : isV V L = isW V L := by
  unfold isV isW
  cases hw : wk l0 L
  · simp
  · rw [vof_rvl fun o ho => okR_d (wk_val L l0 hw o ho)]
theorem isV_vals {V : List Int} {L : List Od} (h : isV V L = true) : V = vof L ∧ V = rvl L ∧ ∀ o ∈ L, 0 ≤ o.d ∧ o.d < 16 := by
  have h' := h
  rw [isV_W] at h'
  unfold isV at h
  unfold isW at h'
  simp only [Bool.and_eq_true, beq_iff_eq] at h h'
  exact ⟨h.2, h'.2, fun o ho => okR_d (wk_val L l0 h.1.2 o ho)⟩
end Go.Proofs.Ytigpopemllamdaa
