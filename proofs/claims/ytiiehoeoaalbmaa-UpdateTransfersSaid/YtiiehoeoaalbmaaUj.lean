/- Updates: a loop over an iterator that writes two boxes of its own; the form of a path. -/
import Derived.Test.YtiiehoeoaalbmaaUi
namespace Go.Proofs.Ytiiehoeoaalbmaa
open Go.RowKit
attribute [local go_sem] Oper.semAt_some

/-- A block of cells lies as it lay. -/
def SameB (B : Nat) (W W' : World) : Prop := ∀ o : Obj, W.heap[B]? = some o → o.isCells = true → W'.heap[B]? = some o
theorem BoxN.same {W W' : World} {B : Nat} {t : TypeId} {vs : Array Value} (h : BoxN W B vs t) (hs : SameB B W W') : BoxN W' B vs t := hs _ h rfl
/-- The contract of an iterator over a list that writes two boxes. -/
def SeqW {α : Type} (n : Nat) (g : Nat) (lb : Array Value) (enc : α → Value) (L : List α) (B1 B2 : Nat) (w : World) : Prop :=
  ∀ (lp : Nat) (J Jx : List α → World → Prop) (W : World), Below w.heap.size w W → AbidesFrom W.heap.size J → AbidesFrom W.heap.size Jx → (∀ s A k v, (k = B1 ∨ k = B2) → J s A → J s (A.setCell ⟨k, 0, none⟩ v)) →
    (∀ (pre : List α) (x : α) (W1 : World), J pre W1 → (∃ r, L = pre ++ x :: r) → YieldAt Fence.wide (n - 1) Try.prog lp #[enc x] W1 fun e W' =>
      (e = .returned (.bool true) ∧ J (pre ++ [x]) W' ∧ SameB B1 W1 W' ∧ SameB B2 W1 W') ∨ (e = .returned (.bool false) ∧ Jx (pre ++ [x]) W')) → J [] W →
    CallsIn Fence.wide n Try.prog g (#[.func (.yield lp) #[] #[]] ++ lb) W fun e W' => (∃ v, e = .returned v) ∧ (J L W' ∨ ∃ pre, (∃ r, L = pre ++ r) ∧ Jx pre W')
/-- How a round's body may be left. -/
def postW {α : Type} (I : List α → World → Prop) (Ix : Code → List α → World → Prop) (xs : List α) (B1 B2 : Nat) (W : World) : Exit → Act → World → Prop
  | .normal, _, W' => KeepsOthers W W' ∧ I xs W' ∧ SameB B1 W W' ∧ SameB B2 W W'
  | .ret, _, W' => KeepsOthers W W' ∧ Ix .ret xs W'
  | _, _, _ => False
theorem range_bx {α : Type} {n : Nat} {g : Operand} {ps : Array Tmp} {assign body : Code} {Q : Exit → Act → World → Prop} {a : Act} {w : World} (h1 : 1 ≤ n) {gf : Nat} {lb : Array Value} (hg : a.eval g = .func (.func gf) #[] lb)
    (eg : ∀ args w, (callFunc gf args).run Try.prog w = .ok (.enter gf args) w) {enc : α → Value} {L : List α} {B1 B2 : Nat} (hseq : SeqW (n - 1) gf lb enc L B1 B2 w) (hps : ps.size = 1) (hB1 : B1 < w.heap.size) (hB2 : B2 < w.heap.size)
    (I : List α → World → Prop) (Ix : Code → List α → World → Prop)
    (hI : OwnFrom w.heap.size I) (hIx : ∀ c, OwnFrom w.heap.size (Ix c)) (hIS : ∀ s A k v, (k = B1 ∨ k = B2) → I s A → I s (A.setCell ⟨k, 0, none⟩ v)) (h0 : I [] w) (a₁ : α → Act)
    (hassign : ∀ (l : Nat) (x : α) (W : World) (K : Act → World → Prop), K (a₁ x) W →
      assign.wpIn (Fence.wide.inRound l) (n - 1 - 1) Try.prog (Exit.then K (fun _ _ _ => False)) { tmps := (ps.zip #[enc x]).foldl (fun t (p, v) => t.setIfInBounds p v) a.tmps, defers := [] } W)
    (hbody : ∀ (l : Nat) (pre : List α) (x : α) (W : World), I pre W → (∃ r, L = pre ++ x :: r) → body.wpIn (Fence.wide.inRound l) (n - 1 - 1) Try.prog (postW I Ix (pre ++ [x]) B1 B2 W) (a₁ x) W)
    (hdone : ∀ (D : Nat) (W : World), w.heap.size ≤ D → I L W → W.heap[D]? = some (.deferred (some [])) → Q .normal { a with defers := { target := .collected D, args := #[] } :: a.defers } W)
    (hstop : ∀ (D : Nat) (c : Code) (pre : List α) (W : World), w.heap.size ≤ D → (∃ r, L = pre ++ r) → Ix c pre W → W.heap[D]? = some (.deferred (some [])) → c.wpIn Fence.wide n Try.prog Q { a with defers := { target := .collected D, args := #[] } :: a.defers } W) :
    (Code.rangeFunc g ps assign body).wpIn Fence.wide n Try.prog Q a w := by
  refine wpIn_rangeFunc fun fn hfn => ?_
  -- the record of the loop, in its three states
  let R (st : LoopState) (j : Option Code) : Obj := .loop { state := st, pending := j, fn, tmps := a.tmps, params := ps, assign, body, defers := w.heap.size }
  let lp := w.heap.size + 1
  let V := (w.alloc (.deferred (some []))).alloc (R .ready none)
  have sV : V.heap.size = w.heap.size + 1 + 1 := by simp [V]
  have vl : V.heap[lp]? = some (R .ready none) := by
    have := World.alloc_heap_new (w.alloc (.deferred (some []))) (R .ready none)
    rwa [World.size_alloc] at this
  have vd : V.heap[w.heap.size]? = some (.deferred (some [])) := (Below.heap_alloc _ _ _ (by simp)).trans (World.alloc_heap_new w _)
  have vb : Below w.heap.size w V := ((Below.refl _ w).alloc (Nat.le_refl _) _).alloc (by simp) _
  have vi : I [] V := hI.alloc _ (hI.alloc _ h0)
  refine ⟨lp, [{ target := .collected w.heap.size, args := #[] }], V, { target := .fn (.func gf) lb, args := #[.func (.yield lp) #[] #[]] }, V, gf, #[.func (.yield lp) #[] #[]] ++ lb, V, ?_, ?_, fun _ _ => trivial, ?_, fun _ => h1, ?_⟩
  · exact run_enterLoop_outer _ _ _ _ _
  · simp only [resolve, hg]; simp [go_sem]
  · simp [invoke, go_sem, eg]
  · -- what the caller knows beside its own invariant: the record, and the block of the deferred calls
    have step : ∀ {A B : World} {row : Option Nat}, A.grownBy B row → (∀ r, row = some r → V.heap.size ≤ r ∧ ∃ o : Obj, A.heap[r]? = some o ∧ o.isWalk = true) →
        (∀ r, row = some r → w.heap.size ≤ r ∧ ∃ o : Obj, A.heap[r]? = some o ∧ o.isCells = false) ∧ ∀ (k : Nat) (o : Obj), A.heap[k]? = some o → o.isCells = false → o.isWalk = false → B.heap[k]? = some o := by
      intro A B row hgr hr
      have hr2 : ∀ r, row = some r → w.heap.size ≤ r ∧ ∃ o : Obj, A.heap[r]? = some o ∧ o.isCells = false := fun r e => by
        obtain ⟨h2, o, h3, h4⟩ := hr r e
        exact ⟨by rw [sV] at h2; omega, o, h3, Obj.not_cells_of_walk h4⟩
      refine ⟨hr2, fun k o hk hc hw => ?_⟩
      refine (hgr.block k (Array.getElem?_eq_some_iff.1 hk).1 fun e => ?_).trans hk
      obtain ⟨-, o2, h3, h4⟩ := hr k e.symm
      rw [hk] at h3
      cases h3
      rw [hw] at h4
      cases h4
    refine (hseq lp (fun pre W => I pre W ∧ W.heap[lp]? = some (R .ready none) ∧ W.heap[w.heap.size]? = some (.deferred (some [])))
      (fun pre W => ∃ c, Ix c pre W ∧ W.heap[lp]? = some (R .done (some c)) ∧ W.heap[w.heap.size]? = some (.deferred (some []))) V vb ?_ ?_ ?_ ?_ ⟨vi, vl, vd⟩).mono ?_
    · rintro s A B row ⟨hb, hl, hd⟩ hgr hr
      obtain ⟨h2, h3⟩ := step hgr hr
      exact ⟨hI s A B row hb hgr h2, h3 _ _ hl rfl rfl, h3 _ _ hd rfl rfl⟩
    · rintro s A B row ⟨c, hc, hl, hd⟩ hgr hr
      obtain ⟨h2, h3⟩ := step hgr hr
      exact ⟨c, hIx c s A B row hc hgr h2, h3 _ _ hl rfl rfl, h3 _ _ hd rfl rfl⟩
    · rintro s A k v hk ⟨hb, hl, hd⟩
      have hkl : k < w.heap.size := by rcases hk with rfl | rfl <;> assumption
      exact ⟨hIS s A k v hk hb, (Below.heap_setCell A ⟨k, 0, none⟩ v lp (by show lp ≠ k; omega)).trans hl, (Below.heap_setCell A ⟨k, 0, none⟩ v w.heap.size (by show w.heap.size ≠ k; omega)).trans hd⟩
    · -- one round
      rintro pre x W ⟨hbW, hl, hd⟩ hx
      have hlt : lp < W.heap.size := (Array.getElem?_eq_some_iff.1 hl).1
      refine ⟨fn, _, assign, body, run_yield (P := Try.prog) (args := #[enc x]) hl hps.symm, roundIn_of_wpIn hfn (hassign _ x W _ ⟨_, run_beginRound hl rfl, ?_⟩)⟩
      let Wb := W.putObj lp (R .busy none)
      have bl : Wb.heap[lp]? = some (R .busy none) := World.putObj_heap_same hlt
      have bd : Wb.heap[w.heap.size]? = some (.deferred (some [])) := (World.putObj_heap_other (by simp [lp])).trans hd
      have bi : I pre Wb := hI.putObj _ hbW (by simp [lp]) hl rfl
      have bs : ∀ B, B < w.heap.size → SameB B W Wb := fun B hB o ho _ => (World.putObj_heap_other (by simp only [lp]; omega)).trans ho
      refine wpIn_mono (hbody lp pre x Wb bi hx) ?_
      -- the end of the round
      have fin : ∀ (j : Option Code) (W3 : World), KeepsOthers Wb W3 → W3.heap[lp]? = some (R .busy none) ∧ (Instr.endRound lp j).run Try.prog W3 = .ok (.bool j.isNone) (W3.putObj lp (R (if j.isNone then .ready else .done) j)) ∧
          (W3.putObj lp (R (if j.isNone then .ready else .done) j)).heap[lp]? = some (R (if j.isNone then .ready else .done) j) ∧ (W3.putObj lp (R (if j.isNone then .ready else .done) j)).heap[w.heap.size]? = some (.deferred (some [])) := fun j W3 hk3 => by
        have h3 := hk3.same _ _ bl rfl
        exact ⟨h3, run_endRound (P := Try.prog) j h3, World.putObj_heap_same (Array.getElem?_eq_some_iff.1 h3).1, (World.putObj_heap_other (by simp [lp])).trans (hk3.same _ _ bd rfl)⟩
      rintro e a3 W3 hp
      cases e with
      | normal =>
        obtain ⟨hk3, hi3, hs1, hs2⟩ := hp
        obtain ⟨h3, hr, hl4, hd4⟩ := fin none W3 hk3
        have pb : ∀ B, B < w.heap.size → SameB B Wb W3 → SameB B W (W3.putObj lp (R .ready none)) := fun B hB hs o ho hc =>
          (World.putObj_heap_other (by simp only [lp]; omega)).trans (hs o (bs B hB o ho hc) hc)
        exact ⟨_, _, hr, .inl ⟨rfl, ⟨hI.putObj _ hi3 (by simp [lp]) h3 rfl, hl4, hd4⟩, pb B1 hB1 hs1, pb B2 hB2 hs2⟩⟩
      | ret =>
        obtain ⟨hk3, hi3⟩ := hp
        obtain ⟨h3, hr, hl4, hd4⟩ := fin (some .ret) W3 hk3
        exact ⟨_, _, hr, .inr ⟨rfl, .ret, (hIx _).putObj _ hi3 (by simp [lp]) h3 rfl, hl4, hd4⟩⟩
      | exit id => exact hp.elim
      | goto t => exact hp.elim
      | panic ch => exact hp.elim
      | outgrown => exact hp.elim
    · -- behind the iterator
      rintro e W2 ⟨⟨v, rfl⟩, (⟨hb, hl, hd⟩ | ⟨pre, hp, c, hc, hl, hd⟩)⟩
      · exact ⟨none, _, run_endLoop (P := Try.prog) hl (by simp), hdone _ _ (Nat.le_refl _) (hI.putObj _ hb (by simp [lp]) hl rfl) ((World.putObj_heap_other (by simp [lp])).trans hd)⟩
      · exact ⟨some c, _, run_endLoop (P := Try.prog) hl (by simp), hstop _ c pre _ (Nat.le_refl _) hp ((hIx c).putObj _ hc (by simp [lp]) hl rfl) ((World.putObj_heap_other (by simp [lp])).trans hd)⟩
/-- The form of a path: where the index has no other one beside it. -/
def fmF : Nat → Nat → Nat → List Bool
  | 0, _, _ => []
  | f + 1, i, c => if 1 < c then (decide (i = c - 1) && decide (c % 2 = 1)) :: fmF f (i / 2) ((c + 1) / 2) else []
def fmL (i c : Nat) : List Bool := fmF c i c
theorem fmF_step {f i c : Nat} (h1 : 1 < c) (hf : c ≤ f) : fmF f i c = (decide (i = c - 1) && decide (c % 2 = 1)) :: fmF (f - 1) (i / 2) ((c + 1) / 2) := by
  obtain ⟨g, rfl⟩ : ∃ g, f = g + 1 := ⟨f - 1, by omega⟩
  show (if 1 < c then _ else _) = _
  rw [if_pos h1]; rfl
theorem fmF_end {f i c : Nat} (h1 : ¬ 1 < c) : fmF f i c = [] := by
  cases f with
  | zero => rfl
  | succ g => show (if 1 < c then _ else _) = _; rw [if_neg h1]
theorem form_any (i c : Int) (w : World) : Calls Try.prog 70 #[.int .i64 i, .int .i64 c] w fun e w' => e = .returned (.func (.func 78) #[] #[.pointer (some ⟨w.heap.size + 1, 0, none⟩), .pointer (some ⟨w.heap.size, 0, none⟩)]) ∧ w' = (w.alloc (.cells #[.int .i64 i] 3)).alloc (.cells #[.int .i64 c] 3) := by
  go_enter Try.func70, Try.ntmps70
  go_wp2
  go_ret
  exact ⟨rfl, rfl⟩
theorem fm_a {ck ik : Nat} (h1 : 1 < ck) (h2 : ck ≤ 64) (h3 : ik ≤ 64) : wrap64 ((ck : Int) - 1) = (ck : Int) - 1 ∧ (ck : Int).tmod 2 = ((ck % 2 : Nat) : Int) ∧ (ik : Int).tdiv 2 = ((ik / 2 : Nat) : Int) ∧ wrap64 ((ck : Int) + 1) = (ck : Int) + 1 ∧ ((ck : Int) + 1).tdiv 2 = (((ck + 1) / 2 : Nat) : Int) ∧ (ck + 1) / 2 < ck ∧ (ck + 1) / 2 ≤ 64 ∧ ik / 2 ≤ 64 :=
  ⟨IntWalk.wrap64_in _ (by omega), rfl, rfl, IntWalk.wrap64_in _ (by omega), rfl, by omega, by omega, by omega⟩
end Go.Proofs.Ytiiehoeoaalbmaa
