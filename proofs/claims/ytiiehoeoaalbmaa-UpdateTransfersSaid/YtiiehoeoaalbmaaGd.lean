/- Hash trees: a loop over rows, each in a block of its own that the iterator has made. -/
import Derived.RangeFuncNested
import Derived.RangeFuncFrom
import Derived.RangeFuncBound
import Derived.RangeFuncCalls
import Derived.RangeFuncLeaves
import Derived.RangeFuncBox
import Derived.TacticsInMore
import Derived.LoopNIn
import Derived.LoopIn
import Derived.OwnWalkIn
import Derived.Test.YtiiehoeoaalbmaaGb
namespace Go.Proofs.Ytiiehoeoaalbmaa
open Go.RowKit

theorem grown_of_below {w w' : World} (h : Below w.heap.size w w') : w.grownBy w' none :=
  ⟨h.os, h.tape, h.output, h.size, fun k hk _ => h.block k hk⟩
theorem cells_of {W : World} {a : Addr} {u : Value} (h : W.cell? a = some u) : ∃ o, W.heap[a.block]? = some o ∧ o.isCells = true := by
  unfold World.cell? at h
  cases ho : W.heap[a.block]? with
  | none => simp [ho] at h
  | some o =>
    refine ⟨o, rfl, ?_⟩
    cases o <;> simp_all [Obj.isCells]
theorem ints_put {W : World} {l : Nat} {o o' : Obj} {v : Value} {x : List Int} (h : IntsAt W v x) (hl : W.heap[l]? = some o) (hc : o.isCells = false) : IntsAt (W.putObj l o') v x := by
  obtain ⟨a, cap, rfl, hm, hx⟩ := h
  refine ⟨a, cap, rfl, hm, fun hn => ?_⟩
  obtain ⟨b, off, ha, hb⟩ := hx hn
  refine ⟨b, off, ha, fun i y hi => ?_⟩
  have h1 := hb i y hi
  obtain ⟨o2, h2, h3⟩ := cells_of h1
  have hne : b ≠ l := fun e => by subst e; rw [show W.heap[b]? = _ from hl] at h2; cases h2; rw [hc] at h3; cases h3
  exact (World.cell?_of_block (a := ⟨b, off + i, none⟩) (World.putObj_heap_other hne)).trans h1
/-- A row in a block from s on. -/
def RowAt (s : Nat) (x : List Int) (v : Value) (W : World) : Prop := ∃ g c, v = .slice (some ⟨g, 0, none⟩) x.length c ∧ s ≤ g ∧ IntsAt W v x
theorem RowAt.mono {s t : Nat} {x : List Int} {v : Value} {W : World} (h : RowAt s x v W) (ht : t ≤ s) : RowAt t x v W := by
  obtain ⟨g, c, h1, h2, h3⟩ := h
  exact ⟨g, c, h1, Nat.le_trans ht h2, h3⟩
theorem row_at {W : World} {base : Nat} {v : Value} {x : List Int} (h : W.ownsRow base 3 1 v x.length (x.map (Value.int .i64))) (hx : x ≠ []) : RowAt base x v W := by
  have hi := ints_of_row h
  rcases h.2 with ⟨-, e⟩ | ⟨g, cap, cur, e, hg, -⟩
  · exact absurd (List.length_eq_zero_iff.1 e) hx
  · exact ⟨g, cap, e, hg, hi⟩
/-- What a round is handed, and what it must pay. -/
def RoundR (n : Nat) (L : List (List Int)) (lp : Nat) (J Jx : List (List Int) → World → Prop) : Prop :=
  ∀ (pre : List (List Int)) (x : List Int) (v : Value) (W2 W : World), J pre W2 → Below W2.heap.size W2 W → RowAt W2.heap.size x v W → (∃ r, L = pre ++ x :: r) → YieldAt Fence.wide (n - 1) Try.prog lp #[v] W fun e W' =>
    (e = .returned (.bool true) ∧ J (pre ++ [x]) W' ∧ IntsAt W' v x) ∨ (e = .returned (.bool false) ∧ Jx (pre ++ [x]) W')
/-- The contract of an iterator over the rows L. -/
def SeqR (n : Nat) (g : Nat) (lb : Array Value) (L : List (List Int)) (w : World) : Prop :=
  ∀ (lp : Nat) (J Jx : List (List Int) → World → Prop) (W : World), Below w.heap.size w W → AbidesFrom W.heap.size J → AbidesFrom W.heap.size Jx → RoundR n L lp J Jx → J [] W →
    CallsIn Fence.wide n Try.prog g (#[.func (.yield lp) #[] #[]] ++ lb) W fun e W' => (∃ v, e = .returned v) ∧ (J L W' ∨ ∃ pre, (∃ r, L = pre ++ r) ∧ Jx pre W')
/-- How a round's body may be left. -/
def postR {β : Type} (I : List (List Int) → β → World → Prop) (Ix : Code → List (List Int) → World → Prop) (xs : List (List Int)) (x : List Int) (v : Value) (W : World) : Exit → Act → World → Prop
  | .normal, _, W' => KeepsOthers W W' ∧ (∃ b, I xs b W') ∧ IntsAt W' v x
  | .exit id, _, W' => KeepsOthers W W' ∧ Ix (.exit id) xs W'
  | _, _, _ => False
theorem range_rows {n : Nat} {g : Operand} {ps : Array Tmp} {assign body : Code} {Q : Exit → Act → World → Prop} {a : Act} {w : World} (h1 : 1 ≤ n) {gf : Nat} {lb : Array Value} (hg : a.eval g = .func (.func gf) #[] lb)
    (eg : ∀ args w, (callFunc gf args).run Try.prog w = .ok (.enter gf args) w) {L : List (List Int)} (hseq : SeqR (n - 1) gf lb L w) (hps : ps.size = 1)
    {β : Type} (I : List (List Int) → β → World → Prop) (bnd : β → Nat) (hbnd : ∀ pre b W, I pre b W → bnd b ≤ W.heap.size) (Ix : Code → List (List Int) → World → Prop)
    (hI : ∀ b, OwnFrom w.heap.size (fun s W => I s b W)) (hIx : ∀ c, OwnFrom w.heap.size (Ix c)) (b0 : β) (h0 : I [] b0 w) (a₁ : Value → Act)
    (hassign : ∀ (l : Nat) (v : Value) (W : World) (K : Act → World → Prop), K (a₁ v) W →
      assign.wpIn (Fence.wide.inRound l) (n - 1 - 1) Try.prog (Exit.then K (fun _ _ _ => False)) { tmps := (ps.zip #[v]).foldl (fun t (p, v) => t.setIfInBounds p v) a.tmps, defers := [] } W)
    (hbody : ∀ (l : Nat) (pre : List (List Int)) (b : β) (x : List Int) (v : Value) (W : World), I pre b W → RowAt (bnd b) x v W → (∃ r, L = pre ++ x :: r) → body.wpIn (Fence.wide.inRound l) (n - 1 - 1) Try.prog (postR I Ix (pre ++ [x]) x v W) (a₁ v) W)
    (hdone : ∀ (D : Nat) (b : β) (W : World), w.heap.size ≤ D → I L b W → W.heap[D]? = some (.deferred (some [])) → Q .normal { a with defers := { target := .collected D, args := #[] } :: a.defers } W)
    (hstop : ∀ (D : Nat) (c : Code) (pre : List (List Int)) (W : World), w.heap.size ≤ D → (∃ r, L = pre ++ r) → Ix c pre W → W.heap[D]? = some (.deferred (some [])) → c.wpIn Fence.wide n Try.prog Q { a with defers := { target := .collected D, args := #[] } :: a.defers } W) :
    (Code.rangeFunc g ps assign body).wpIn Fence.wide n Try.prog Q a w := by
  refine wpIn_rangeFunc fun fn hfn => ?_
  -- the record of the loop, in its three states
  let R (st : LoopState) (j : Option Code) : Obj := .loop { state := st, pending := j, fn, tmps := a.tmps, params := ps, assign, body, defers := w.heap.size }
  let lp := w.heap.size + 1
  let V := (w.alloc (.deferred (some []))).alloc (R .ready none)
  have sV : V.heap.size = w.heap.size + 1 + 1 := by simp [V]
  have vl : V.heap[lp]? = some (R .ready none) := by
    have := World.alloc_heap_new (w.alloc (.deferred (some []))) (R .ready none)
    rwa [World.size_alloc] at this
  have vd : V.heap[w.heap.size]? = some (.deferred (some [])) := (Below.heap_alloc _ _ _ (by simp)).trans (World.alloc_heap_new w _)
  have vb : Below w.heap.size w V := ((Below.refl _ w).alloc (Nat.le_refl _) _).alloc (by simp) _
  have vi : I [] b0 V := (hI b0).alloc _ ((hI b0).alloc _ h0)
  refine ⟨lp, [{ target := .collected w.heap.size, args := #[] }], V, { target := .fn (.func gf) lb, args := #[.func (.yield lp) #[] #[]] }, V, gf, #[.func (.yield lp) #[] #[]] ++ lb, V, ?_, ?_, fun _ _ => trivial, ?_, fun _ => h1, ?_⟩
  · exact run_enterLoop_outer _ _ _ _ _
  · simp only [resolve, hg]; simp [go_sem]
  · simp [invoke, go_sem, eg]
  · -- what the caller knows beside its own invariant: the record, and the block of the deferred calls
    have step : ∀ {A B : World} {row : Option Nat}, A.grownBy B row → (∀ r, row = some r → V.heap.size ≤ r ∧ ∃ o : Obj, A.heap[r]? = some o ∧ o.isWalk = true) →
        (∀ r, row = some r → w.heap.size ≤ r ∧ ∃ o : Obj, A.heap[r]? = some o ∧ o.isCells = false) ∧ ∀ (k : Nat) (o : Obj), A.heap[k]? = some o → o.isCells = false → o.isWalk = false → B.heap[k]? = some o := by
      intro A B row hgr hr
      have hr2 : ∀ r, row = some r → w.heap.size ≤ r ∧ ∃ o : Obj, A.heap[r]? = some o ∧ o.isCells = false := fun r e => by
        obtain ⟨h2, o, h3, h4⟩ := hr r e
        exact ⟨by rw [sV] at h2; omega, o, h3, Obj.not_cells_of_walk h4⟩
      refine ⟨hr2, fun k o hk hc hw => ?_⟩
      refine (hgr.block k (Array.getElem?_eq_some_iff.1 hk).1 fun e => ?_).trans hk
      obtain ⟨-, o2, h3, h4⟩ := hr k e.symm
      rw [hk] at h3
      cases h3
      rw [hw] at h4
      cases h4
    refine (hseq lp (fun pre W => (∃ b, I pre b W) ∧ W.heap[lp]? = some (R .ready none) ∧ W.heap[w.heap.size]? = some (.deferred (some [])))
      (fun pre W => ∃ c, Ix c pre W ∧ W.heap[lp]? = some (R .done (some c)) ∧ W.heap[w.heap.size]? = some (.deferred (some []))) V vb ?_ ?_ ?_ ⟨⟨b0, vi⟩, vl, vd⟩).mono ?_
    · rintro s A B row ⟨⟨b, hb⟩, hl, hd⟩ hgr hr
      obtain ⟨h2, h3⟩ := step hgr hr
      exact ⟨⟨b, hI b s A B row hb hgr h2⟩, h3 _ _ hl rfl rfl, h3 _ _ hd rfl rfl⟩
    · rintro s A B row ⟨c, hc, hl, hd⟩ hgr hr
      obtain ⟨h2, h3⟩ := step hgr hr
      exact ⟨c, hIx c s A B row hc hgr h2, h3 _ _ hl rfl rfl, h3 _ _ hd rfl rfl⟩
    · -- one round
      rintro pre x v W2 W ⟨⟨b, hb⟩, hl2, hd2⟩ hW hrow hx
      have hl : W.heap[lp]? = some (R .ready none) := (hW.block _ (Array.getElem?_eq_some_iff.1 hl2).1).trans hl2
      have hd : W.heap[w.heap.size]? = some (.deferred (some [])) := (hW.block _ (Array.getElem?_eq_some_iff.1 hd2).1).trans hd2
      have hbW : I pre b W := hI b pre W2 W none hb (grown_of_below hW) (fun r e => by cases e)
      have hrow1 : RowAt (bnd b) x v W := hrow.mono (hbnd _ _ _ hb)
      have hlt : lp < W.heap.size := (Array.getElem?_eq_some_iff.1 hl).1
      refine ⟨fn, _, assign, body, run_yield (P := Try.prog) (args := #[v]) hl hps.symm, roundIn_of_wpIn hfn (hassign _ v W _ ⟨_, run_beginRound hl rfl, ?_⟩)⟩
      let Wb := W.putObj lp (R .busy none)
      have bl : Wb.heap[lp]? = some (R .busy none) := World.putObj_heap_same hlt
      have bd : Wb.heap[w.heap.size]? = some (.deferred (some [])) := (World.putObj_heap_other (by simp [lp])).trans hd
      have bi : I pre b Wb := (hI b).putObj _ hbW (by simp [lp]) hl rfl
      have br : RowAt (bnd b) x v Wb := by
        obtain ⟨gk, ck, e1, e2, e3⟩ := hrow1
        exact ⟨gk, ck, e1, e2, ints_put e3 hl rfl⟩
      refine wpIn_mono (hbody lp pre b x v Wb bi br hx) ?_
      -- the end of the round
      have fin : ∀ (j : Option Code) (W3 : World), KeepsOthers Wb W3 → W3.heap[lp]? = some (R .busy none) ∧ (Instr.endRound lp j).run Try.prog W3 = .ok (.bool j.isNone) (W3.putObj lp (R (if j.isNone then .ready else .done) j)) ∧
          (W3.putObj lp (R (if j.isNone then .ready else .done) j)).heap[lp]? = some (R (if j.isNone then .ready else .done) j) ∧ (W3.putObj lp (R (if j.isNone then .ready else .done) j)).heap[w.heap.size]? = some (.deferred (some [])) := fun j W3 hk3 => by
        have h3 := hk3.same _ _ bl rfl
        exact ⟨h3, run_endRound (P := Try.prog) j h3, World.putObj_heap_same (Array.getElem?_eq_some_iff.1 h3).1, (World.putObj_heap_other (by simp [lp])).trans (hk3.same _ _ bd rfl)⟩
      rintro e a3 W3 hp
      cases e with
      | normal =>
        obtain ⟨hk3, ⟨b3, hi3⟩, hv3⟩ := hp
        obtain ⟨h3, hr, hl4, hd4⟩ := fin none W3 hk3
        exact ⟨_, _, hr, .inl ⟨rfl, ⟨⟨b3, (hI b3).putObj _ hi3 (by simp [lp]) h3 rfl⟩, hl4, hd4⟩, ints_put hv3 h3 rfl⟩⟩
      | exit id =>
        obtain ⟨hk3, hi3⟩ := hp
        obtain ⟨h3, hr, hl4, hd4⟩ := fin (some (.exit id)) W3 hk3
        exact ⟨_, _, hr, .inr ⟨rfl, .exit id, (hIx _).putObj _ hi3 (by simp [lp]) h3 rfl, hl4, hd4⟩⟩
      | ret => exact hp.elim
      | goto t => exact hp.elim
      | panic ch => exact hp.elim
      | outgrown => exact hp.elim
    · -- behind the iterator
      rintro e W2 ⟨⟨v, rfl⟩, (⟨⟨b, hb⟩, hl, hd⟩ | ⟨pre, hp, c, hc, hl, hd⟩)⟩
      · exact ⟨none, _, run_endLoop (P := Try.prog) hl (by simp), hdone _ b _ (Nat.le_refl _) ((hI b).putObj _ hb (by simp [lp]) hl rfl) ((World.putObj_heap_other (by simp [lp])).trans hd)⟩
      · exact ⟨some c, _, run_endLoop (P := Try.prog) hl (by simp), hstop _ c pre _ (Nat.le_refl _) hp ((hIx c).putObj _ hc (by simp [lp]) hl rfl) ((World.putObj_heap_other (by simp [lp])).trans hd)⟩
end Go.Proofs.Ytiiehoeoaalbmaa
