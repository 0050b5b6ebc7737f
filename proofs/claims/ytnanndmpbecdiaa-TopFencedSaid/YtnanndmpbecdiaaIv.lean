import Derived.Deep.CutRange
import Derived.Deep.RegionLaw
namespace Go.Proofs.Ytnanndmpbecdiaa

section
variable {P : Program} {ops : Array Oper} {Q : Exit → Act → World → Prop} {md : Region.Mode}

/-- Which operations have come up. -/
def up (f : Nat → Bool) (i : Nat) : Nat → Bool := fun k => if k = i then true else f k

theorem up_ne (f : Nat → Bool) (i k : Nat) (h : k ≠ i) : up f i k = f k := by simp [up, h]

def bits (l : Array Bool) : Nat → Bool := fun k => l.getD k false

theorem bits_set (l : Array Bool) (i : Nat) (h : i < l.size) : bits (l.setIfInBounds i true) = up (bits l) i := by
  funext k
  unfold bits up
  by_cases hk : k = i
  · subst hk; simp [h]
  · rw [if_neg hk]
    simp [Array.getD_eq_getD_getElem?, Ne.symm hk]

/-- One operation keeps the invariant. -/
def StepOk (P : Program) (md : Region.Mode) (ops : Array Oper) (Q : Exit → Act → World → Prop) (J : (Nat → Bool) → Act → World → Prop) (i : Nat) (o : Oper) : Prop :=
  ∀ f a w, f i = false → (o.after.all fun e => !Region.binds md e || f e.on) = true → J f a w → ∀ K' : Act → World → Prop, (∀ a w, J (up f i) a w → K' a w) →
    if Region.wanted o (yielded ops a.tmps) = true then Oper.wp P o a w K' Q else K' (a.put o.dst undef) w

def StepsOk (P : Program) (md : Region.Mode) (ops : Array Oper) (Q : Exit → Act → World → Prop) (J : (Nat → Bool) → Act → World → Prop) : Nat → List Oper → Prop
  | _, [] => True
  | i, o :: os => StepOk P md ops Q J i o ∧ StepsOk P md ops Q J (i + 1) os

theorem StepsOk.at {J : (Nat → Bool) → Act → World → Prop} : ∀ (os : List Oper) (n : Nat), StepsOk P md ops Q J n os → ∀ i o, os[i]? = some o → StepOk P md ops Q J (n + i) o
  | [], _, _, i, o, h => by simp at h
  | x :: os, n, hs, 0, o, h => by simp at h; subst h; exact hs.1
  | x :: os, n, hs, i + 1, o, h => by
    have := StepsOk.at os (n + 1) hs.2 i o (by simpa using h)
    rwa [show n + 1 + i = n + (i + 1) by omega] at this

/-- The edges lead back. -/
def backs (os : Array Oper) : Bool := (List.range os.size).all fun i => ((os[i]?).map (·.after.all fun e => (!Region.binds .any e || decide (e.on < i)))).getD true

theorem ready_ne (hb : backs ops = true) (l : Array Bool) (hl : l.size = ops.size) (i : Nat) (hi : i < ops.size) (hu : bits l i = false) : Region.ready .any ops l ≠ [] := by
  induction i using Nat.strongRecOn with
  | ind i ih =>
    intro h
    by_cases hx : ∃ j, j < i ∧ bits l j = false
    · obtain ⟨j, hj, hju⟩ := hx
      exact ih j hj (by omega) hju h
    · have hm : i ∈ Region.ready .any ops l := by
        unfold Region.ready
        simp only [List.mem_filter, List.mem_range]
        refine ⟨hi, ?_⟩
        have hu' : l.getD i true = false := by
          unfold bits at hu
          simp [Array.getD_eq_getD_getElem?, show i < l.size by omega] at hu ⊢
          exact hu
        rw [hu']
        have ho : ops[i]? = some ops[i] := by simp [hi]
        rw [ho]
        simp only [Bool.not_false, Bool.true_and, Option.map_some, Option.getD_some]
        rw [Array.all_eq_true_iff_forall_mem]
        intro e he
        have hbk := List.all_eq_true.1 hb i (by simpa using hi)
        rw [ho] at hbk
        simp only [Option.map_some, Option.getD_some] at hbk
        rw [Array.all_eq_true_iff_forall_mem] at hbk
        have hlt := hbk e he
        cases hbd : Region.binds .any e with
        | false => simp
        | true =>
          rw [hbd] at hlt
          have hlt : e.on < i := by simpa using hlt
          have : bits l e.on = true := by
            cases hc : bits l e.on with
            | true => rfl
            | false => exact absurd ⟨e.on, hlt, hc⟩ hx
          unfold bits at this
          rw [this]; simp
      rw [h] at hm; cases hm

theorem wpAny_inv {J : (Nat → Bool) → Act → World → Prop} (hb : backs ops = true) (hs : StepsOk P .any ops Q J 0 ops.toList)
    (he : ∀ f a w, (∀ i, i < ops.size → f i = true) → J f a w → Q .normal a w) :
    ∀ (fuel : Nat) (l : Array Bool) (a : Act) (w : World), l.size = ops.size → (l.toList.countP (fun b => !b)) ≤ fuel → J (bits l) a w → wpAny P .any ops Q fuel l a w := by
  have hend : ∀ (l : Array Bool) (a : Act) (w : World), l.size = ops.size → J (bits l) a w → Region.ready .any ops l = [] → Q .normal a w := by
    intro l a w hl hJ hr
    refine he _ a w (fun i hi => ?_) hJ
    cases hc : bits l i with
    | true => rfl
    | false => exact absurd hr (ready_ne hb l hl i hi hc)
  intro fuel
  induction fuel with
  | zero =>
    intro l a w hl hc hJ
    have hr : Region.ready .any ops l = [] := by
      cases h : Region.ready .any ops l with
      | nil => rfl
      | cons x xs =>
        exfalso
        have hx : x ∈ Region.ready .any ops l := by rw [h]; exact List.mem_cons_self
        unfold Region.ready at hx
        simp only [List.mem_filter, List.mem_range, Bool.and_eq_true] at hx
        have h0 : l.toList.countP (fun b => !b) = 0 := by omega
        rw [List.countP_eq_zero] at h0
        have hxl : x < l.size := by omega
        have hm : l[x] ∈ l.toList := by simp
        have h1 := h0 _ hm
        have h2 := hx.2.1
        simp [Array.getD_eq_getD_getElem?, hxl] at h1 h2
        rw [h1] at h2; cases h2
    exact ⟨hr, hend l a w hl hJ hr⟩
  | succ fuel ih =>
    intro l a w hl hc hJ
    refine ⟨hend l a w hl hJ, fun i hi => ?_⟩
    have hx := hi
    unfold Region.ready at hx
    simp only [List.mem_filter, List.mem_range, Bool.and_eq_true] at hx
    obtain ⟨hlt, hun, haf⟩ := hx
    have hil : i < l.size := by omega
    have hoi : ops[i]? = some ops[i] := by simp [hlt]
    rw [hoi] at haf
    simp only [Option.map_some, Option.getD_some] at haf
    have hun' : l[i] = false := by simpa [Array.getD_eq_getD_getElem?, hil] using hun
    have hst := hs.at ops.toList 0 i ops[i] (by simp [hlt])
    rw [Nat.zero_add] at hst
    refine wpOp_step hoi fun K' hK => hst (bits l) a w (by simp [bits, Array.getD_eq_getD_getElem?, hil, hun']) (by simpa [bits] using haf) hJ K' (fun a' w' hJ' => hK a' w' ?_)
    refine ih _ a' w' (by simpa using hl) ?_ (by rw [bits_set _ _ hil]; exact hJ')
    have : (l.setIfInBounds i true).toList = l.toList.set i true := by simp
    rw [this, List.countP_set (h := by simpa using hil)]
    have hg : l.toList[i]'(by simpa using hil) = false := by simpa using hun'
    rw [hg]
    have hpos : 0 < l.toList.countP (fun b => !b) := by
      rw [List.countP_pos_iff]
      exact ⟨l[i], by simp, by simp [hun']⟩
    generalize List.countP (fun b => !b) l.toList = n at hc hpos ⊢
    simp
    omega

theorem region_inv {id : Nat} {a : Act} {w : World} (J : (Nat → Bool) → Act → World → Prop) (hm : P.follows .mixedOrders = true) (hb : backs ops = true)
    (h0 : J (fun _ => false) a w.drew) (hs : StepsOk P .any ops Q J 0 ops.toList) (he : ∀ f a w, (∀ i, i < ops.size → f i = true) → J f a w → Q .normal a w) :
    (Code.region id ops true).wp P Q a w := by
  refine wp_region_any hm (wpAny_inv hb hs he _ _ _ _ (by simp) ?_ ?_)
  · exact Nat.le_trans List.countP_le_length (by simp)
  · have : bits (Array.replicate ops.size false) = fun _ => false := by
      funext k; unfold bits; simp [Array.getD_eq_getD_getElem?, Array.getElem?_replicate]; split <;> rfl
    rw [this]; exact h0
end
end Go.Proofs.Ytnanndmpbecdiaa
