import Derived.Test.YtolinnmhdclgpaaAy
import Derived.ChangeSame
import Derived.Deep.Strs
import Derived.RowKit
import Derived.Deep.CutRange
namespace Go.Proofs.Ytolinnmhdclgpaa
open Go.RowKit Go.WideShapes Go.ChangeShapes Go.Joins Go.Deep

set_option maxRecDepth 100000 in
theorem ownK : ownKnob Try.prog.godebug = none := by kernel_rfl
set_option maxRecDepth 100000 in
theorem laidO : laidOutB Try.prog = true := by kernel_rfl
set_option maxRecDepth 100000 in
theorem plain_of {w : World} {a : Addr} {v : Value} (h : w.cell? (a.add 0) = some v) : ∃ b off, a = ⟨b, off, none⟩ := by
  obtain ⟨b, off, spot⟩ := a
  have hspot : spot = none := by simpa [Addr.add] using World.cell?_spot h
  subst hspot
  exact ⟨b, off, rfl⟩
set_option maxRecDepth 100000 in
theorem range_get {α : Type} (f : Nat → α) (len i : Nat) (x : α) (h : ((List.range len).map f)[i]? = some x) : i < len ∧ x = f i := by
  rw [List.getElem?_map] at h
  by_cases hi : i < len
  · simp [hi] at h; exact ⟨hi, h.symm⟩
  · simp [hi] at h
instance : Inhabited Od := ⟨zO⟩
section
variable {H : Type} {enc : TypeId × Value → H} {w : World} {base : Nat} {sp : Nat → Bool} {held : Bool} {r : Reach} {b0 : Nat} {v : Value} {d : DataW H} {p : List MemPlace}
set_option maxRecDepth 100000 in
theorem arg_int {t : TypeId} {k : IntKind} (ht : Try.prog.underlying t = some (.int k)) (hv : Value.okWide Try.prog w r b0 t v) (h : DataW.Trod enc Try.prog w base sp held t v d p) : ∃ x : Int, v = .int k x ∧ k.min ≤ x ∧ x ≤ k.max := by
  obtain ⟨x, rfl, -, -, hw⟩ := open_int ht hv h
  refine ⟨x, rfl, ?_⟩
  have : (decide (k.min ≤ x) && decide (x ≤ k.max)) = true := hw
  rw [Bool.and_eq_true, decide_eq_true_iff, decide_eq_true_iff] at this
  exact this
end
open Go.RowKit

/-- The reference's values below a number. -/
def rvu (L : List Od) (n : Nat) : List Int := ((List.range n).map fun n : Nat => (n : Int)).filter fun v => L.any fun o => decide (o.d = v)
theorem rvu_len (L : List Od) (n : Nat) : (rvu L n).length ≤ n := by
  unfold rvu
  refine Nat.le_trans (List.length_filter_le _ _) (by simp)
open Go.RowKit

theorem cs_other {w : World} {n m j : Nat} {vs : Array Value} (h : Cs w n vs) (hne : n ≠ m) (x : Value) : Cs (w.setCell ⟨m, j, none⟩ x) n vs := ((Chg.of (k := m) (Below.refl _ w)).set j x).cs hne h
open Go.RowKit

theorem isW_len {V : List Int} {L : List Od} (h : isW V L = true) : L.length ≤ 20 ∧ V.length ≤ 16 ∧ V = rvl L := by
  unfold isW at h
  simp only [Bool.and_eq_true, decide_eq_true_eq, beq_iff_eq] at h
  refine ⟨h.1.1.1.2, ?_, h.2⟩
  rw [h.2]
  exact rvu_len L 16

/-- One order flies ahead of another. -/
def bef (x y : Od) : Prop := x.a < y.a ∧ x.b ≤ y.b
theorem wk_iff : ∀ (L : List Od) (l : Od), wk l L = true ↔ (∀ x ∈ L, okR x = true) ∧ (flt L).Pairwise bef ∧ ∀ x ∈ flt L, bef l x := by
  intro L
  induction L with
  | nil => intro l; simp [wk, flt]
  | cons y L ih =>
    intro l
    have e : flt (y :: L) = if (!stB y) = true then y :: flt L else flt L := List.filter_cons
    rw [e]
    unfold wk
    rw [Bool.and_eq_true]
    by_cases hs : stB y = true
    · rw [if_pos hs, if_neg (by rw [hs]; simp), ih]
      constructor
      · rintro ⟨h0, h1, h2, h3⟩
        refine ⟨fun x hx => ?_, h2, h3⟩
        rcases List.mem_cons.1 hx with rfl | hx
        · exact h0
        · exact h1 x hx
      · rintro ⟨h1, h2, h3⟩
        exact ⟨h1 y (by simp), fun x hx => h1 x (by simp [hx]), h2, h3⟩
    · have hs' : stB y = false := by simpa using hs
      rw [if_neg hs, if_pos (by rw [hs']; rfl), Bool.and_eq_true, Bool.and_eq_true, ih]
      simp only [List.pairwise_cons, Bool.not_eq_true', decide_eq_false_iff_not]
      constructor
      · rintro ⟨h0, ⟨h1, h2⟩, h3, h4, h5⟩
        refine ⟨fun x hx => ?_, ⟨h5, h4⟩, fun x hx => ?_⟩
        · rcases List.mem_cons.1 hx with rfl | hx
          · exact h0
          · exact h3 x hx
        · rcases List.mem_cons.1 hx with rfl | hx
          · exact ⟨by omega, by omega⟩
          · have := h5 x hx
            unfold bef at this ⊢
            omega
      · rintro ⟨h1, ⟨h5, h4⟩, h6⟩
        have h7 := h6 y (by simp)
        unfold bef at h7
        exact ⟨h1 y (by simp), ⟨by omega, by omega⟩, fun x hx => h1 x (by simp [hx]), h4, h5⟩
theorem isW_iff (V : List Int) (L : List Od) : isW V L = true ↔ (flt L).length ≤ 8 ∧ L.length ≤ 20 ∧ (∃ x ∈ L, stB x = true) ∧ (∀ x ∈ L, okR x = true) ∧ (flt L).Pairwise bef ∧ (∀ x ∈ flt L, bef l0 x) ∧ V = rvl L := by
  unfold isW
  rw [Bool.and_eq_true, Bool.and_eq_true, Bool.and_eq_true, Bool.and_eq_true, wk_iff, decide_eq_true_eq, decide_eq_true_eq, beq_iff_eq, List.any_eq_true]
  constructor
  · rintro ⟨⟨⟨⟨h1, h2⟩, h3⟩, h4, h5, h6⟩, h7⟩; exact ⟨h1, h2, h3, h4, h5, h6, h7⟩
  · rintro ⟨h1, h2, h3, h4, h5, h6, h7⟩; exact ⟨⟨⟨⟨h1, h2⟩, h3⟩, h4, h5, h6⟩, h7⟩
theorem flt_mem {L : List Od} {x : Od} : x ∈ flt L ↔ x ∈ L ∧ stB x = false := by unfold flt; rw [List.mem_filter]; simp
theorem flt_app (L M : List Od) : flt (L ++ M) = flt L ++ flt M := List.filter_append ..
theorem okR_parts {x : Od} : okR x = true ↔ (-1 ≤ x.a ∧ x.a ≤ 1000000000) ∧ (0 ≤ x.b ∧ x.b ≤ 1000000000) ∧ (0 ≤ x.d ∧ x.d ≤ 15) ∧ -1 ≤ x.c := by
  unfold okR
  simp only [Bool.and_eq_true, inr_iff, Bool.not_eq_true', decide_eq_false_iff_not]
  constructor
  · rintro ⟨⟨⟨h1, h2⟩, h3⟩, h4⟩; exact ⟨h1, h2, h3, by omega⟩
  · rintro ⟨h1, h2, h3, h4⟩; exact ⟨⟨⟨h1, h2⟩, h3⟩, by omega⟩
theorem stB_iff {x : Od} : stB x = true ↔ x.c = -1 := by unfold stB; exact decide_eq_true_iff
theorem rV_ok {M : List Od} (h : ∀ o ∈ M, okR o = true) : rV 0 M = rvl M := rV_W rfl fun o ho => okR_d (h o ho)
/-- What sending asks. -/
theorem sdE_ok {L : List Od} {o : Od} (h : sdE L o = 0) : isO o = true ∧ (∀ x ∈ L, x.a < o.a ∧ x.b ≤ o.b) ∧ (flt L).length ≠ 8 ∧ L.length ≠ 20 := by
  unfold sdE at h
  by_cases h1 : (!isO o || L.any fun x => decide (o.a ≤ x.a)) = true
  · rw [if_pos h1] at h; cases h
  · rw [if_neg h1] at h
    by_cases h2 : (L.any fun x => decide (o.b < x.b)) = true
    · rw [if_pos h2] at h; cases h
    · rw [if_neg h2] at h
      by_cases h3 : (decide ((flt L).length = 8) || decide (L.length = 20)) = true
      · rw [if_pos h3] at h; cases h
      · simp only [Bool.or_eq_true, decide_eq_true_eq, not_or] at h3
        simp only [Bool.or_eq_true, not_or, Bool.not_eq_true', List.any_eq_true, decide_eq_true_eq, not_exists, not_and] at h1 h2
        refine ⟨by simpa using h1.1, fun x hx => ⟨?_, ?_⟩, h3.1, h3.2⟩
        · have := h1.2 x hx; omega
        · have := h2 x hx; omega
theorem isO_parts {o : Od} (h : isO o = true) : (0 ≤ o.a ∧ o.a ≤ 1000000000) ∧ (0 ≤ o.b ∧ o.b ≤ 1000000000) ∧ (0 ≤ o.c ∧ o.c ≤ 1000000000) ∧ (0 ≤ o.d ∧ o.d ≤ 15) := by
  unfold isO at h
  simp only [Bool.and_eq_true, inr_iff] at h
  exact ⟨h.1.1.1, h.1.1.2, h.1.2, h.2⟩
theorem sent_ok {V : List Int} {L : List Od} {o : Od} (hw : isW V L = true) (h : sdE L o = 0) : isW (rV 0 (L ++ [o])) (rM 0 (L ++ [o])) = true := by
  obtain ⟨h1, h2, h3, h4⟩ := sdE_ok h
  obtain ⟨p1, p2, p3, p4⟩ := isO_parts h1
  obtain ⟨w1, w2, w3, w4, w5, w6, w7⟩ := (isW_iff V L).1 hw
  have hs : stB o = false := by
    cases hs : stB o with
    | false => rfl
    | true => have := stB_iff.1 hs; omega
  have hf : flt (L ++ [o]) = flt L ++ [o] := by
    rw [flt_app]
    congr 1
    unfold flt
    rw [List.filter_cons, if_pos (by rw [hs]; rfl), List.filter_nil]
  have hk : ∀ x ∈ L ++ [o], okR x = true := fun x hx => by
    rcases List.mem_append.1 hx with hx | hx
    · exact w4 x hx
    · obtain rfl : x = o := by simpa using hx
      exact okR_parts.2 ⟨by omega, p2, p4, by omega⟩
  rw [rV_ok hk, rM_W _ rfl, isW_iff]
  refine ⟨by rw [hf, List.length_append]; simp; omega, by rw [List.length_append]; simp; omega, ?_, hk, ?_, ?_, rfl⟩
  · obtain ⟨x, hx, e⟩ := w3
    exact ⟨x, by simp [hx], e⟩
  · rw [hf, List.pairwise_append]
    refine ⟨w5, by simp, fun x hx y hy => ?_⟩
    obtain rfl : y = o := by simpa using hy
    exact h2 x (flt_mem.1 hx).1
  · rw [hf]
    intro x hx
    rcases List.mem_append.1 hx with hx | hx
    · exact w6 x hx
    · obtain rfl : x = o := by simpa using hx
      exact ⟨show (-1 : Int) < x.a by omega, show (0 : Int) ≤ x.b by omega⟩
theorem flt_sub {L M : List Od} (h : M.Sublist L) : (flt M).Sublist (flt L) := List.Sublist.filter _ h
theorem flt_all_st {o : Od} (h : stB o = true) (M : List Od) : flt (M ++ [o]) = flt M := by
  rw [flt_app]
  have : flt [o] = [] := by unfold flt; rw [List.filter_cons, if_neg (by rw [h]; simp), List.filter_nil]
  rw [this, List.append_nil]
/-- Records that are made of a belief's, and one that is settled. -/
theorem made_ok {V : List Int} {L M N : List Od} (hw : isW V L = true) (hM : ∀ x ∈ M, okR x = true) (hf : flt M = flt N) (hN : N.Sublist L) (hl : M.length ≤ 20) (hs : ∃ x ∈ M, stB x = true) : isW (rV 0 M) (rM 0 M) = true := by
  obtain ⟨w1, w2, w3, w4, w5, w6, w7⟩ := (isW_iff V L).1 hw
  have hsub := flt_sub hN
  rw [rV_ok hM, rM_W _ rfl, isW_iff]
  refine ⟨by rw [hf]; exact Nat.le_trans hsub.length_le w1, hl, hs, hM, by rw [hf]; exact w5.sublist hsub, fun x hx => ?_, rfl⟩
  rw [hf] at hx
  exact w6 x (hsub.mem hx)
theorem cf_some {q : Int} {L : List Od} (h : cfE q L = 0) : ∃ i, fsI (cfP q) L 0 = some i ∧ i < L.length ∧ cfP q (L.getD i zO) = true ∧ cfM q L = cfO L i := by
  unfold cfE at h
  unfold cfM
  cases hf : fsI (cfP q) L 0 with
  | none => rw [hf] at h; cases h
  | some i =>
    obtain ⟨-, h2, h3, -⟩ := fsI_some.1 hf
    exact ⟨i, rfl, by simpa using h2, by simpa using h3, rfl⟩
theorem getD_mem {L : List Od} {i : Nat} (h : i < L.length) : L.getD i zO ∈ L := List.mem_of_getElem? (od_get h)
theorem conf_ok {V : List Int} {L : List Od} {q : Int} (hw : isW V L = true) (h : cfE q L = 0) : isW (rV 0 (cfM q L)) (rM 0 (cfM q L)) = true := by
  obtain ⟨i, -, hi, hp, hm⟩ := cf_some h
  rw [hm]
  obtain ⟨w1, w2, w3, w4, w5, w6, w7⟩ := (isW_iff V L).1 hw
  have ho := okR_parts.1 (w4 _ (getD_mem hi))
  have hst : stB { L.getD i zO with c := -1 } = true := stB_iff.2 rfl
  have hsub : ((flt (L.take i) ++ L.drop (i + 1)).filter (cfS (L.getD i zO))).Sublist L := by
    refine (List.filter_sublist).trans ?_
    have h1 : (flt (L.take i)).Sublist (L.take i) := List.filter_sublist
    have h2 : (L.drop (i + 1)).Sublist (L.drop i) := List.drop_sublist_drop_left L (by omega)
    have := h1.append h2
    rwa [List.take_append_drop] at this
  refine made_ok (N := (flt (L.take i) ++ L.drop (i + 1)).filter (cfS (L.getD i zO))) hw (fun x hx => ?_) (by unfold cfO; exact flt_all_st hst _) hsub ?_ ⟨_, by unfold cfO; simp, hst⟩
  · unfold cfO at hx
    rcases List.mem_append.1 hx with hx | hx
    · exact w4 x (hsub.mem hx)
    · obtain rfl : x = { L.getD i zO with c := -1 } := by simpa using hx
      exact okR_parts.2 ⟨ho.1, ho.2.1, ho.2.2.1, by simp⟩
  · unfold cfO
    rw [List.length_append]
    have h1 : ((flt (L.take i) ++ L.drop (i + 1)).filter (cfS (L.getD i zO))).length ≤ (flt (L.take i) ++ L.drop (i + 1)).length := List.length_filter_le _ _
    have h2 : (flt (L.take i)).length ≤ (L.take i).length := List.length_filter_le _ _
    rw [List.length_append, List.length_drop] at h1
    rw [List.length_take] at h2
    simp only [List.length_singleton]
    omega
theorem rpB_ok (t : Int) : ∀ (L : List Od) (b : Int), 0 ≤ b ∧ b ≤ 1000000000 → (∀ x ∈ L, okR x = true) → 0 ≤ L.foldl (fun b x => if rpT t x = true then b else max b x.b) b ∧ L.foldl (fun b x => if rpT t x = true then b else max b x.b) b ≤ 1000000000 := by
  intro L
  induction L with
  | nil => intro b hb _; exact hb
  | cons x L ih =>
    intro b hb h
    rw [List.foldl_cons]
    refine ih _ ?_ fun y hy => h y (by simp [hy])
    have := (okR_parts.1 (h x (by simp))).2.1
    by_cases hr : rpT t x = true
    · rw [if_pos hr]; exact hb
    · rw [if_neg hr]; omega
theorem rpE_ok {V : List Int} {L : List Od} {v t : Int} (h : rpE V L v t = 0) : (-1 ≤ t ∧ t ≤ 1000000000) ∧ v ∈ V ∧ ∀ x ∈ L, stB x = true → x.a ≤ t := by
  unfold rpE at h
  by_cases h1 : inr t (-1) 1000000000 = false
  · rw [if_pos h1] at h; cases h
  · rw [if_neg h1] at h
    by_cases h2 : (!V.contains v || (L.filter stB).any (rpT t)) = true
    · rw [if_pos h2] at h; cases h
    · simp only [Bool.or_eq_true, not_or, Bool.not_eq_true', Bool.not_eq_false] at h1 h2
      refine ⟨inr_iff.1 h1, by simpa using h2.1, fun x hx hs => ?_⟩
      have h3 := h2.2
      rw [List.any_eq_true] at h3
      by_cases hx' : x.a ≤ t
      · exact hx'
      · exact absurd ⟨x, List.mem_filter.2 ⟨hx, hs⟩, by unfold rpT; exact decide_eq_true (by omega)⟩ h3
theorem rep_ok {V : List Int} {L : List Od} {v t : Int} (hw : isW V L = true) (h : rpE V L v t = 0) : isW (rV 0 (rpM L v t)) (rM 0 (rpM L v t)) = true := by
  obtain ⟨h1, h2, h3⟩ := rpE_ok h
  obtain ⟨w1, w2, w3, w4, w5, w6, w7⟩ := (isW_iff V L).1 hw
  rw [w7] at h2
  have hv := ((rvl_prop L).2 v).1 h2
  have hb := rpB_ok t L 0 (by omega) w4
  have hst : stB ⟨t, rpB t L, -1, v⟩ = true := stB_iff.2 rfl
  have hsub : ((flt L).filter (rpT t)).Sublist L := (List.filter_sublist).trans List.filter_sublist
  refine made_ok (N := (flt L).filter (rpT t)) hw (fun x hx => ?_) ?_ hsub ?_ ⟨_, by unfold rpM; simp, hst⟩
  · unfold rpM at hx
    rcases List.mem_cons.1 hx with rfl | hx
    · exact okR_parts.2 ⟨h1, hb, ⟨hv.1.1, show v ≤ 15 by omega⟩, show (-1 : Int) ≤ -1 by omega⟩
    · exact w4 x (hsub.mem hx)
  · unfold rpM
    have e : flt (⟨t, rpB t L, -1, v⟩ :: (flt L).filter (rpT t)) = flt ((flt L).filter (rpT t)) := by
      conv => lhs; unfold flt
      rw [List.filter_cons, if_neg (by rw [hst]; simp)]
      rfl
    exact e
  · unfold rpM
    rw [List.length_cons]
    have : ((flt L).filter (rpT t)).length ≤ (flt L).length := List.length_filter_le _ _
    omega
open Go.RowKit

def bS (p d : Int) : List Od := [⟨p, 0, -1, d⟩]
def cS (st : Int) (ds : List Int) (i : Nat) : List Od := ⟨-1, 0, -1, st⟩ :: (List.range i).map fun j : Nat => (⟨(j : Int), 0, 0, ds.getD j 0 % 16⟩ : Od)
theorem cS_succ (st : Int) (ds : List Int) (i : Nat) : cS st ds (i + 1) = cS st ds i ++ [⟨(i : Int), 0, 0, ds.getD i 0 % 16⟩] := by
  unfold cS; rw [List.range_succ, List.map_append]; rfl
theorem rvl_one {x : Od} (h : 0 ≤ x.d ∧ x.d < 16) : rvl [x] = [x.d] := by
  rw [← vof_rvl (fun o ho => by rw [show o = x by simpa using ho]; exact h), vof_one]
theorem bS_ok {p d : Int} (hp : -1 ≤ p ∧ p ≤ 1000000000) (hd : 0 ≤ d ∧ d < 16) : isW [d] (bS p d) = true := by
  have hs : stB ⟨p, 0, -1, d⟩ = true := stB_iff.2 rfl
  rw [isW_iff]
  have hf : flt (bS p d) = [] := by unfold flt bS; rw [List.filter_cons, if_neg (by rw [hs]; simp), List.filter_nil]
  refine ⟨by rw [hf]; simp, by simp [bS], ⟨_, by simp [bS], hs⟩, fun x hx => ?_, by rw [hf]; simp, by rw [hf]; simp, ?_⟩
  · obtain rfl : x = ⟨p, 0, -1, d⟩ := by simpa [bS] using hx
    exact okR_parts.2 ⟨hp, by simp, ⟨hd.1, show d ≤ 15 by omega⟩, by simp⟩
  · unfold bS; rw [rvl_one (x := ⟨p, 0, -1, d⟩) hd]
theorem rM_z (M : List Od) : rM 0 M = M := rM_W M rfl
theorem sd_zero {L : List Od} {o : Od} (h1 : isO o = true) (h2 : ∀ x ∈ L, x.a < o.a ∧ x.b ≤ o.b) (h3 : (flt L).length ≠ 8) (h4 : L.length ≠ 20) : sdE L o = 0 := by
  unfold sdE
  rw [if_neg, if_neg, if_neg]
  · simp [h3, h4]
  · simp only [List.any_eq_true, decide_eq_true_eq, not_exists, not_and]
    intro x hx; have := h2 x hx; omega
  · simp only [Bool.or_eq_true, not_or, h1, List.any_eq_true, decide_eq_true_eq, not_exists, not_and]
    refine ⟨by simp, fun x hx => ?_⟩
    have := h2 x hx; omega
theorem isO_mk {a b c d : Int} (ha : 0 ≤ a ∧ a ≤ 1000000000) (hb : 0 ≤ b ∧ b ≤ 1000000000) (hc : 0 ≤ c ∧ c ≤ 1000000000) (hd : 0 ≤ d ∧ d ≤ 15) : isO ⟨a, b, c, d⟩ = true := by
  unfold isO
  simp only [Bool.and_eq_true, inr_iff]
  exact ⟨⟨⟨ha, hb⟩, hc⟩, hd⟩
theorem cf_two {p d w : Int} : cfE (p + 1) (bS p w ++ [⟨p + 1, 0, 0, d⟩]) = 0 ∧ cfM (p + 1) (bS p w ++ [⟨p + 1, 0, 0, d⟩]) = bS (p + 1) d := by
  have h1 : cfP (p + 1) ⟨p, 0, -1, w⟩ = false := by unfold cfP stB; simp
  have h2 : cfP (p + 1) ⟨p + 1, 0, 0, d⟩ = true := by unfold cfP stB; simp
  have hf : fsI (cfP (p + 1)) (bS p w ++ [⟨p + 1, 0, 0, d⟩]) 0 = some 1 := by
    unfold bS
    simp only [List.cons_append, List.nil_append, fsI, h1, h2, if_true]
    rfl
  have hs : stB ⟨p, 0, -1, w⟩ = true := stB_iff.2 rfl
  refine ⟨by unfold cfE; rw [hf], ?_⟩
  unfold cfM
  rw [hf]
  show cfO _ 1 = _
  unfold cfO bS
  have ht : flt [(⟨p, 0, -1, w⟩ : Od)] = [] := by unfold flt; rw [List.filter_cons, if_neg (by rw [hs]; simp), List.filter_nil]
  simp [ht]
/-- What the loop keeps. -/
def CI (st : Int) (ds : List Int) (i : Nat) (want : Int) (V0 : List Int) (M0 : List Od) (Vc : List Int) (Mc : List Od) : Prop :=
  (0 ≤ want ∧ want < 16) ∧ V0 = [want] ∧ M0 = bS ((i : Int) - 1) want ∧ Mc = cS st ds i ∧ isW Vc Mc = true ∧ V0.length ≤ 300 ∧ M0.length ≤ 300 ∧ Vc.length ≤ 300 ∧ Mc.length ≤ 300
theorem isW_lens {V : List Int} {L : List Od} (h : isW V L = true) : V.length ≤ 300 ∧ L.length ≤ 300 := by
  have := isW_len h; exact ⟨by omega, by omega⟩
theorem CI.start {st : Int} {ds : List Int} (h : 0 ≤ st ∧ st < 16) : CI st ds 0 st [st] (bS (-1) st) [st] (bS (-1) st) := by
  have := bS_ok (p := -1) (by omega) h
  exact ⟨h, rfl, rfl, by unfold bS cS; simp, this, by simp, by simp [bS], by simp, by simp [bS]⟩
theorem cS_flt (st : Int) (ds : List Int) (i : Nat) : (flt (cS st ds i)).length ≤ i := by
  have hs : stB ⟨-1, 0, -1, st⟩ = true := stB_iff.2 rfl
  unfold flt cS
  rw [List.filter_cons, if_neg (by rw [hs]; simp)]
  refine Nat.le_trans (List.length_filter_le _ _) (by simp)
theorem cS_mem {st : Int} {ds : List Int} {i : Nat} {x : Od} (h : x ∈ cS st ds i) : (x.c = -1 → x.a = -1) ∧ x.a < i ∧ -1 ≤ x.a ∧ x.b = 0 := by
  unfold cS at h
  rcases List.mem_cons.1 h with rfl | h
  · exact ⟨fun _ => rfl, show (-1 : Int) < i by omega, show (-1 : Int) ≤ -1 by omega, rfl⟩
  · obtain ⟨j, hj, rfl⟩ := List.mem_map.1 h
    rw [List.mem_range] at hj
    exact ⟨fun h => by simp at h, show ((j : Int) < i) by omega, show (-1 : Int) ≤ j by omega, rfl⟩
/-- One round. -/
structure CR (st : Int) (ds : List Int) (i : Nat) (d : Int) (V0 : List Int) (M0 : List Od) (Vc : List Int) (Mc : List Od) (V1 : List Int) (M1 : List Od) (V2 : List Int) (M2 : List Od) (V3 : List Int) (M3 : List Od) : Prop where
  e1 : snE V0 M0 ⟨(i : Int), 0, 0, d⟩ = 0
  v1 : rV 0 (M0 ++ [⟨(i : Int), 0, 0, d⟩]) = V1
  m1 : rM 0 (M0 ++ [⟨(i : Int), 0, 0, d⟩]) = M1
  e2 : cnE V1 M1 (i : Int) = 0
  v2 : rV 0 (cfM (i : Int) M1) = V2
  m2 : rM 0 (cfM (i : Int) M1) = M2
  e3 : snE Vc Mc ⟨(i : Int), 0, 0, d⟩ = 0
  v3 : rV 0 (Mc ++ [⟨(i : Int), 0, 0, d⟩]) = V3
  m3 : rM 0 (Mc ++ [⟨(i : Int), 0, 0, d⟩]) = M3
  l1 : V1.length ≤ 300 ∧ M1.length ≤ 300
  ci : CI st ds (i + 1) d V2 M2 V3 M3
theorem CI.next {st : Int} {ds : List Int} {i : Nat} {want : Int} {V0 : List Int} {M0 : List Od} {Vc : List Int} {Mc : List Od} (h : CI st ds i want V0 M0 Vc Mc) (hi : i < 8) {d : Int} (hd : d = ds.getD i 0 % 16) :
    ∃ V1 M1 V2 M2 V3 M3, CR st ds i d V0 M0 Vc Mc V1 M1 V2 M2 V3 M3 := by
  obtain ⟨hw, rfl, rfl, rfl, hc, -, -, -, -⟩ := h
  have hd0 : 0 ≤ d ∧ d < 16 := by omega
  have hb := bS_ok (p := (i : Int) - 1) (d := want) (by omega) hw
  have ho : isO ⟨(i : Int), 0, 0, d⟩ = true := isO_mk (by omega) (by omega) (by omega) (by omega)
  have s1 : sdE (bS ((i : Int) - 1) want) ⟨(i : Int), 0, 0, d⟩ = 0 := by
    refine sd_zero ho (fun x hx => ?_) ?_ (by simp [bS])
    · obtain rfl : x = ⟨(i : Int) - 1, 0, -1, want⟩ := by simpa [bS] using hx
      exact ⟨show (i : Int) - 1 < i by omega, show (0 : Int) ≤ 0 by omega⟩
    · have h1 : (flt (bS ((i : Int) - 1) want)).length ≤ (bS ((i : Int) - 1) want).length := List.length_filter_le _ _
      have h2 : (bS ((i : Int) - 1) want).length = 1 := rfl
      omega
  have w1 := sent_ok hb s1
  rw [rM_z] at w1
  have hii : (i : Int) - 1 + 1 = i := by omega
  have c1 := cf_two (p := (i : Int) - 1) (d := d) (w := want)
  rw [hii] at c1
  have s3 : sdE (cS st ds i) ⟨(i : Int), 0, 0, d⟩ = 0 := by
    refine sd_zero ho (fun x hx => ?_) ?_ ?_
    · obtain ⟨-, h2, -, h4⟩ := cS_mem hx
      exact ⟨h2, by rw [h4]; exact Int.le_refl _⟩
    · have := cS_flt st ds i; omega
    · simp [cS]; omega
  have w3 := sent_ok hc s3
  rw [rM_z] at w3
  have hb2 := bS_ok (p := (i : Int)) (d := d) (by omega) hd0
  refine ⟨_, _, _, _, _, _, ⟨by rw [snE_W, if_pos hb]; exact s1, rfl, rM_z _, by rw [cnE_W, if_pos w1]; exact c1.1, rfl, rM_z _, by rw [snE_W, if_pos hc]; exact s3, rfl, rM_z _, isW_lens w1, ⟨hd0, ?_, ?_, ?_, w3, ?_, ?_, (isW_lens w3).1, (isW_lens w3).2⟩⟩⟩
  · rw [c1.2]; unfold rV; rw [if_pos rfl]; exact vof_one _
  · rw [c1.2]; congr 1; push_cast; omega
  · rw [cS_succ, ← hd]
  · rw [c1.2]; unfold rV; rw [if_pos rfl]; unfold bS; rw [vof_one]; simp
  · rw [c1.2]; simp [bS]
/-- Behind the loop: the report. -/
theorem CI.last {st : Int} {ds : List Int} {i : Nat} {want : Int} {V0 : List Int} {M0 : List Od} {Vc : List Int} {Mc : List Od} (h : CI st ds i want V0 M0 Vc Mc) (hi : i ≤ 8) {x : Int} (hx : x ∈ Vc) :
    rnE Vc Mc x ((i : Int) - 1) = 0 ∧ rV 0 (rpM Mc x ((i : Int) - 1)) = [x] := by
  obtain ⟨hw, rfl, rfl, rfl, hc, -, -, -, -⟩ := h
  have hr : rpE Vc (cS st ds i) x ((i : Int) - 1) = 0 := by
    unfold rpE
    rw [if_neg (by rw [inr_iff.2 (by omega)]; simp), if_neg]
    simp only [Bool.or_eq_true, not_or, Bool.not_eq_true', Bool.not_eq_false, List.any_eq_true, not_exists, not_and]
    refine ⟨by simpa using hx, fun y hy => ?_⟩
    obtain ⟨h1, h2⟩ := List.mem_filter.1 hy
    have h3 := (cS_mem h1).1 (stB_iff.1 h2)
    unfold rpT
    simp only [decide_eq_true_eq]
    omega
  refine ⟨by rw [rnE_W, if_pos hc]; exact hr, ?_⟩
  have hm : rpM (cS st ds i) x ((i : Int) - 1) = [⟨(i : Int) - 1, rpB ((i : Int) - 1) (cS st ds i), -1, x⟩] := by
    unfold rpM
    rw [List.filter_eq_nil_iff.2]
    intro y hy
    have := (cS_mem (flt_mem.1 hy).1).2.1
    unfold rpT
    simp only [decide_eq_true_eq]
    omega
  rw [hm]
  unfold rV
  rw [if_pos rfl]
  exact vof_one _
open Go.RowKit

theorem bit_mod (D k : Nat) : (((D : Int) / 2 ^ k).tmod 2 == 1) = D.testBit k := by
  have h : ((D : Int) / 2 ^ k) = ((D / 2 ^ k : Nat) : Int) := by push_cast; rfl
  rw [h, Nat.testBit_eq_decide_div_mod_eq]
  generalize D / 2 ^ k = q
  rw [Int.tmod_eq_emod_of_nonneg (by omega), Bool.eq_iff_iff, beq_iff_eq, decide_eq_true_eq]
  omega
set_option maxRecDepth 100000 in
set_option maxHeartbeats 8000000 in
theorem done_any (v c : Value) (D k : Nat) (hD : D ≤ 2000000) (hk : k ≤ 40) (w : World) :
    Calls Try.prog 28 #[.agg #[v, .int .i64 (D : Int), c], .int .i64 (k : Int)] w fun e w' => e = .returned (.bool (D.testBit k)) ∧ Below w.heap.size w w' := by
  have HB := Lib.hid (al w (.cells #[v, .int .i64 (D : Int), c] 44))
  have h1 : (0 : Int) ≤ (k : Int) := by omega
  have h2 : (k : Int) ≤ 40 := by omega
  have h3 : (D : Int) ≤ 2000000 := by omega
  have h4 : (0 : Int) ≤ (D : Int) := by omega
  have HM := Lib.hid (bit_mod D k)
  go_enter Try.func28, Try.ntmps28
  go_wp2
  rw [HM.out]
  go_ret
  exact ⟨rfl, HB.out⟩
set_option maxRecDepth 100000 in
set_option maxHeartbeats 8000000 in
theorem made_any (a b c d n : Int) (ha : -1 ≤ a ∧ a ≤ 1000000000) (hb : 0 ≤ b ∧ b ≤ 1000000000) (hn : 0 ≤ n ∧ n ≤ 100000) (w : World) :
    Calls Try.prog 26 #[.agg #[.int .i64 a, .int .i64 b, .int .i64 c, .int .i64 d], .int .i64 n] w fun e w' => ∃ A B E : Int, e = .returned (.agg #[.int .i64 A, .int .i64 B, .int .i64 0, .int .i64 E]) ∧ a < A ∧ b ≤ B ∧ Below w.heap.size w w' := by
  obtain ⟨h1, h2⟩ := ha
  obtain ⟨h3, h4⟩ := hb
  obtain ⟨h5, h6⟩ := hn
  have w1 : wrap64 (a + 1) = a + 1 := IntWalk.wrap64_in _ (by omega)
  have w2 : wrap64 (a + 1 + n % 9) = a + 1 + n % 9 := IntWalk.wrap64_in _ (by omega)
  have w3 : wrap64 (b + n / 9 % 8 / 7) = b + n / 9 % 8 / 7 := IntWalk.wrap64_in _ (by omega)
  go_enter Try.func26, Try.ntmps26
  go_wp2
  exact bodyPost_ret (v := .agg #[.int .i64 (a + 1 + n % 9), .int .i64 (b + n / 9 % 8 / 7), .int .i64 0, .int .i64 (n / 72 % 4)]) (by simp [results, Try.results26, go_sem]) rfl ⟨_, _, _, rfl, by omega, by omega, by first | exact al2 | exact (al _ _)⟩
/-- The greatest number that a device has executed or closed. -/
def tpf (D : Nat) (L : List Od) (c : Int) (n : Nat) : Int := (List.range n).foldl (fun t i => if D.testBit i = true then max t (L.getD i zO).a else t) c
theorem tpf_succ (D : Nat) (L : List Od) (c : Int) (n : Nat) : tpf D L c (n + 1) = if D.testBit n = true then max (tpf D L c n) (L.getD n zO).a else tpf D L c n := by
  unfold tpf; rw [List.range_succ, List.foldl_append]; rfl
theorem tpf_prop (D : Nat) (L : List Od) (c : Int) : ∀ n, c ≤ tpf D L c n ∧ (∀ i, i < n → D.testBit i = true → (L.getD i zO).a ≤ tpf D L c n) ∧ (tpf D L c n = c ∨ ∃ i, i < n ∧ D.testBit i = true ∧ tpf D L c n = (L.getD i zO).a) := by
  intro n
  induction n with
  | zero => exact ⟨by simp [tpf], fun i h => absurd h (by omega), .inl (by simp [tpf])⟩
  | succ n ih =>
    obtain ⟨h1, h2, h3⟩ := ih
    rw [tpf_succ]
    by_cases hb : D.testBit n = true
    · rw [if_pos hb]
      refine ⟨by omega, fun i hi hd => ?_, ?_⟩
      · by_cases e : i = n
        · subst e; omega
        · have := h2 i (by omega) hd; omega
      · by_cases hm : tpf D L c n ≤ (L.getD n zO).a
        · right; exact ⟨n, by omega, hb, by omega⟩
        · rcases h3 with h3 | ⟨i, hi, hd, h3⟩
          · left; omega
          · right; exact ⟨i, by omega, hd, by omega⟩
    · rw [if_neg hb]
      refine ⟨h1, fun i hi hd => ?_, ?_⟩
      · by_cases e : i = n
        · subst e; exact absurd hd hb
        · exact h2 i (by omega) hd
      · rcases h3 with h3 | ⟨i, hi, hd, h3⟩
        · exact .inl h3
        · exact .inr ⟨i, by omega, hd, h3⟩
set_option maxRecDepth 100000 in
set_option maxHeartbeats 8000000 in
theorem top_any (s v : Value) (L : List Od) (D : Nat) (c : Int) (hD : D ≤ 2000000) (hl : L.length ≤ 20) (w : World) (h : OdsAt w s L) :
    Calls Try.prog 29 #[s, .agg #[v, .int .i64 (D : Int), .int .i64 c]] w fun e w' => e = .returned (.int .i64 (tpf D L c L.length)) ∧ Below w.heap.size w w' := by
  have HL := Lib.hid h
  obtain ⟨sa, sc, rfl, -, -, -⟩ := h
  have HB := Lib.hid (al w (.cells #[v, .int .i64 (D : Int), .int .i64 c] 44))
  have HC := Lib.hid (Cs.new w w.heap.size #[v, .int .i64 (D : Int), .int .i64 c] 44 rfl)
  have H9 := Lib.hid hl
  have hm : L.length ≤ 1000 := by omega
  clear hl
  go_enter Try.func29, Try.ntmps29
  go_wp2_with fail
  go_loopw [5, 6] (fun tv iv wr => ∃ k : Nat, k ≤ L.length ∧ iv = .int .i64 k ∧ tv = .int .i64 (tpf D L c k) ∧ Hid (Cs wr w.heap.size #[v, .int .i64 (D : Int), .int .i64 c]) ∧ Hid (Below w.heap.size w wr)) (fun _ iv _ => L.length - (intOf iv).toNat)
  case atStart => exact ⟨0, by omega, rfl, rfl, HC, HB⟩
  case round =>
    obtain ⟨k, hk, rfl, rfl, HC1, HW⟩ := hrel
    have c0 := HC1.out.c 0 rfl
    have c1 := HC1.out.c 1 rfl
    have c2 := HC1.out.c 2 rfl
    have cz := HC1.out.2.2
    by_cases hlt : k < L.length
    · obtain ⟨a1, cc1, hv1, -, -, hcs1⟩ := HL.out.step HW.out
      obtain ⟨rfl, rfl⟩ : sa = a1 ∧ sc = cc1 := by simpa using hv1
      obtain ⟨b1, o1, rfl, hx1⟩ := hcs1 (by intro e; rw [e] at hlt; simp at hlt)
      obtain ⟨y0, -, -, -⟩ := hx1 k _ (od_get hlt)
      have t1 : (k : Int) < (L.length : Int) := by omega
      have HS := Lib.hid (tpf_succ D L c k)
      have HK := Lib.hid (show k ≤ 40 by have := H9.out; omega)
      clear hcs1 hx1 hv1
      generalize tpf D L c k = T at *
      obtain ⟨xa, hxa⟩ : ∃ z, (L.getD k zO).a = z := ⟨_, rfl⟩
      rw [hxa] at y0 HS
      clear hxa
      cases hb : D.testBit k
      · have HF := Lib.hid (show tpf D L c (k + 1) = T by rw [HS.out, hb]; rfl)
        go_wp2_with fail
        refine (done_any v _ D k hD HK.out _).mono ?_
        rintro e w2 ⟨rfl, b⟩
        rw [hb]
        have HC2 := Lib.hid (HC1.out.step b)
        have HW2 := Lib.hid (keep2 b HW.out)
        clear b c0 c1 c2 cz y0
        go_wp2
        go_roundw
        case rel => exact ⟨k + 1, hlt, by go_num, by rw [HF.out], HC2, HW2⟩
        case measure => simp [intOf]; omega
      · go_wp2_with fail
        refine (done_any v _ D k hD HK.out _).mono ?_
        rintro e w2 ⟨rfl, b⟩
        rw [hb]
        have HC2 := Lib.hid (HC1.out.step b)
        have HW2 := Lib.hid (keep2 b HW.out)
        have y0' := keep1 b y0
        have yz := World.block_lt_of_cell? _ _ y0'
        clear b c0 c1 c2 cz y0
        have HF := Lib.hid (show tpf D L c (k + 1) = max T xa by rw [HS.out, hb, if_pos rfl])
        go_wp2
        go_roundw
        case rel => exact ⟨k + 1, hlt, by go_num, by rw [HF.out], HC2, HW2⟩
        case measure => simp [intOf]; omega
    · obtain rfl : k = L.length := by omega
      go_wp2
      go_ret
      exact ⟨rfl, HW.out⟩
end Go.Proofs.Ytolinnmhdclgpaa
