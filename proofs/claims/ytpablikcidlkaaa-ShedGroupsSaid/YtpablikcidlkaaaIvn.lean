/- A region that draws its order, by an invariant, inside a fence (in a round too). -/
import Derived.OrdersIn
import Derived.TacticsIn
import Derived.Test.YtpablikcidlkaaaIv
namespace Go.Proofs.Ytpablikcidlkaaa

section
variable {F : Fence} {n : Nat} {P : Program} {ops : Array Oper} {Q : Exit → Act → World → Prop} {md : Region.Mode}

/-- One operation keeps the invariant. -/
def StepOkI (F : Fence) (n : Nat) (P : Program) (md : Region.Mode) (ops : Array Oper) (Q : Exit → Act → World → Prop) (J : (Nat → Bool) → Act → World → Prop) (i : Nat) (o : Oper) : Prop :=
  ∀ f a w, f i = false → (o.after.all fun e => !Region.binds md e || f e.on) = true → J f a w → ∀ K' : Act → World → Prop, (∀ a w, J (up f i) a w → K' a w) →
    if Region.wanted o (yielded ops a.tmps) = true then o.wpIn F n P a w K' Q else (∀ f, o.about P w a.eval = some f → F.fn f) ∧ K' (a.put o.dst undef) w

def StepsOkI (F : Fence) (n : Nat) (P : Program) (md : Region.Mode) (ops : Array Oper) (Q : Exit → Act → World → Prop) (J : (Nat → Bool) → Act → World → Prop) : Nat → List Oper → Prop
  | _, [] => True
  | i, o :: os => StepOkI F n P md ops Q J i o ∧ StepsOkI F n P md ops Q J (i + 1) os

theorem StepsOkI.at {J : (Nat → Bool) → Act → World → Prop} : ∀ (os : List Oper) (m : Nat), StepsOkI F n P md ops Q J m os → ∀ i o, os[i]? = some o → StepOkI F n P md ops Q J (m + i) o
  | [], _, _, i, o, h => by simp at h
  | x :: os, m, hs, 0, o, h => by simp at h; subst h; exact hs.1
  | x :: os, m, hs, i + 1, o, h => by
    have := StepsOkI.at os (m + 1) hs.2 i o (by simpa using h)
    rwa [show m + 1 + i = m + (i + 1) by omega] at this

theorem wpAnyIn_inv {J : (Nat → Bool) → Act → World → Prop} (hb : backs ops = true) (hs : StepsOkI F n P .any ops Q J 0 ops.toList)
    (he : ∀ f a w, (∀ i, i < ops.size → f i = true) → J f a w → Q .normal a w) :
    ∀ (fuel : Nat) (l : Array Bool) (a : Act) (w : World), l.size = ops.size → (l.toList.countP (fun b => !b)) ≤ fuel → J (bits l) a w → wpAnyIn F n P .any ops Q fuel l a w := by
  have hend : ∀ (l : Array Bool) (a : Act) (w : World), l.size = ops.size → J (bits l) a w → Region.ready .any ops l = [] → Q .normal a w := by
    intro l a w hl hJ hr
    refine he _ a w (fun i hi => ?_) hJ
    cases hc : bits l i with
    | true => rfl
    | false => exact absurd hr (ready_ne hb l hl i hi hc)
  intro fuel
  induction fuel with
  | zero =>
    intro l a w hl hc hJ
    have hr : Region.ready .any ops l = [] := by
      cases h : Region.ready .any ops l with
      | nil => rfl
      | cons x xs =>
        exfalso
        have hx : x ∈ Region.ready .any ops l := by rw [h]; exact List.mem_cons_self
        unfold Region.ready at hx
        simp only [List.mem_filter, List.mem_range, Bool.and_eq_true] at hx
        have h0 : l.toList.countP (fun b => !b) = 0 := by omega
        rw [List.countP_eq_zero] at h0
        have hxl : x < l.size := by omega
        have hm : l[x] ∈ l.toList := by simp
        have h1 := h0 _ hm
        have h2 := hx.2.1
        simp [Array.getD_eq_getD_getElem?, hxl] at h1 h2
        rw [h1] at h2; cases h2
    exact ⟨hr, hend l a w hl hJ hr⟩
  | succ fuel ih =>
    intro l a w hl hc hJ
    refine ⟨hend l a w hl hJ, fun i hi => ?_⟩
    have hx := hi
    unfold Region.ready at hx
    simp only [List.mem_filter, List.mem_range, Bool.and_eq_true] at hx
    obtain ⟨hlt, hun, haf⟩ := hx
    have hil : i < l.size := by omega
    have hoi : ops[i]? = some ops[i] := by simp [hlt]
    rw [hoi] at haf
    simp only [Option.map_some, Option.getD_some] at haf
    have hun' : l[i] = false := by simpa [Array.getD_eq_getD_getElem?, hil] using hun
    have hst := hs.at ops.toList 0 i ops[i] (by simp [hlt])
    rw [Nat.zero_add] at hst
    unfold wpOpIn
    rw [hoi]
    refine hst (bits l) a w (by simp [bits, Array.getD_eq_getD_getElem?, hil, hun']) (by simpa [bits] using haf) hJ _ (fun a' w' hJ' => ?_)
    refine ih _ a' w' (by simpa using hl) ?_ (by rw [bits_set _ _ hil]; exact hJ')
    have : (l.setIfInBounds i true).toList = l.toList.set i true := by simp
    rw [this, List.countP_set (h := by simpa using hil)]
    have hg : l.toList[i]'(by simpa using hil) = false := by simpa using hun'
    rw [hg]
    have hpos : 0 < l.toList.countP (fun b => !b) := by
      rw [List.countP_pos_iff]
      exact ⟨l[i], by simp, by simp [hun']⟩
    generalize List.countP (fun b => !b) l.toList = n9 at hc hpos ⊢
    simp
    omega

theorem region_inv_in {id : Nat} {a : Act} {w : World} (J : (Nat → Bool) → Act → World → Prop) (hm : P.follows .mixedOrders = true) (hb : backs ops = true)
    (h0 : J (fun _ => false) a w.drew) (hs : StepsOkI F n P .any ops Q J 0 ops.toList) (he : ∀ f a w, (∀ i, i < ops.size → f i = true) → J f a w → Q .normal a w) :
    (Code.region id ops true).wpIn F n P Q a w := by
  refine wpIn_region_any hm (wpAnyIn_inv hb hs he _ _ _ _ (by simp) ?_ ?_)
  · exact Nat.le_trans List.countP_le_length (by simp)
  · have : bits (Array.replicate ops.size false) = fun _ => false := by
      funext k; unfold bits; simp [Array.getD_eq_getD_getElem?, Array.getElem?_replicate]; split <;> rfl
    rw [this]; exact h0
end
/-- One slot more. -/
def upw (vs : Nat → Value) (i : Nat) (x : Value) : Nat → Value := fun k => cond (k == i) x (vs k)
theorem up_wal {vs : Nat → Value} {bf : Nat → Bool} {val : List Value} (i : Nat) (h : ∀ k, bf k = true → vs k = val.getD k undef) {x : Value} (hx : val.getD i undef = x) : ∀ k, up bf i k = true → upw vs i x k = val.getD k undef := fun k hk => by
  unfold upw
  by_cases e : k = i
  · subst e; simp only [beq_self_eq_true, cond_true]; exact hx.symm
  · have : (k == i) = false := by simpa using e
    rw [this]
    exact h k (by unfold up at hk; rwa [if_neg e] at hk)
end Go.Proofs.Ytpablikcidlkaaa

