import Derived.LoopIn
import Derived.LoopNIn
import Derived.OwnWalkIn
import Derived.RangeFuncBound
import Derived.RangeFuncBox
import Derived.RangeFuncCalls
import Derived.RangeFuncFrom
import Derived.RangeFuncLeaves
import Derived.RangeFuncNested
import Derived.TacticsInMore
import Derived.Test.YteodafhgfcbdpaaGb
namespace Go.Proofs.Yteodafhgfcbdpaa
open Go.RowKit

theorem grown_of_below {w w' : World} (h : Below w.heap.size w w') : w.grownBy w' none :=
  ⟨h.os, h.tape, h.output, h.size, fun k hk _ => h.block k hk⟩
theorem cells_of {W : World} {a : Addr} {u : Value} (h : W.cell? a = some u) : ∃ o, W.heap[a.block]? = some o ∧ o.isCells = true := by
  unfold World.cell? at h
  cases ho : W.heap[a.block]? with
  | none => simp [ho] at h
  | some o =>
    refine ⟨o, rfl, ?_⟩
    cases o <;> simp_all [Obj.isCells]
theorem ints_put {W : World} {l : Nat} {o o' : Obj} {v : Value} {x : List Int} (h : IntsAt W v x) (hl : W.heap[l]? = some o) (hc : o.isCells = false) : IntsAt (W.putObj l o') v x := by
  obtain ⟨a, cap, rfl, hm, hx⟩ := h
  refine ⟨a, cap, rfl, hm, fun hn => ?_⟩
  obtain ⟨b, off, ha, hb⟩ := hx hn
  refine ⟨b, off, ha, fun i y hi => ?_⟩
  have h1 := hb i y hi
  obtain ⟨o2, h2, h3⟩ := cells_of h1
  have hne : b ≠ l := fun e => by subst e; rw [show W.heap[b]? = _ from hl] at h2; cases h2; rw [hc] at h3; cases h3
  exact (World.cell?_of_block (a := ⟨b, off + i, none⟩) (World.putObj_heap_other hne)).trans h1
/-- A row in a block from s on. -/
def RowAt (s : Nat) (x : List Int) (v : Value) (W : World) : Prop := ∃ g c, v = .slice (some ⟨g, 0, none⟩) x.length c ∧ s ≤ g ∧ IntsAt W v x
theorem RowAt.mono {s t : Nat} {x : List Int} {v : Value} {W : World} (h : RowAt s x v W) (ht : t ≤ s) : RowAt t x v W := by
  obtain ⟨g, c, h1, h2, h3⟩ := h
  exact ⟨g, c, h1, Nat.le_trans ht h2, h3⟩
theorem row_at {W : World} {base : Nat} {v : Value} {x : List Int} (h : W.ownsRow base 3 1 v x.length (x.map (Value.int .i64))) (hx : x ≠ []) : RowAt base x v W := by
  have hi := ints_of_row h
  rcases h.2 with ⟨-, e⟩ | ⟨g, cap, cur, e, hg, -⟩
  · exact absurd (List.length_eq_zero_iff.1 e) hx
  · exact ⟨g, cap, e, hg, hi⟩
/-- What a round is handed, and what it must pay. -/
def RoundR (n : Nat) (L : List (List Int)) (lp : Nat) (J Jx : List (List Int) → World → Prop) : Prop :=
  ∀ (pre : List (List Int)) (x : List Int) (v : Value) (W2 W : World), J pre W2 → Below W2.heap.size W2 W → RowAt W2.heap.size x v W → (∃ r, L = pre ++ x :: r) → YieldAt Fence.wide (n - 1) Try.prog lp #[v] W fun e W' =>
    (e = .returned (.bool true) ∧ J (pre ++ [x]) W' ∧ IntsAt W' v x) ∨ (e = .returned (.bool false) ∧ Jx (pre ++ [x]) W')
/-- The contract of an iterator over the rows L. -/
def SeqR (n : Nat) (g : Nat) (lb : Array Value) (L : List (List Int)) (w : World) : Prop :=
  ∀ (lp : Nat) (J Jx : List (List Int) → World → Prop) (W : World), Below w.heap.size w W → AbidesFrom W.heap.size J → AbidesFrom W.heap.size Jx → RoundR n L lp J Jx → J [] W →
    CallsIn Fence.wide n Try.prog g (#[.func (.yield lp) #[] #[]] ++ lb) W fun e W' => (∃ v, e = .returned v) ∧ (J L W' ∨ ∃ pre, (∃ r, L = pre ++ r) ∧ Jx pre W')
/-- How a round's body may be left. -/
def postR {β : Type} (I : List (List Int) → β → World → Prop) (Ix : Code → List (List Int) → World → Prop) (xs : List (List Int)) (x : List Int) (v : Value) (W : World) : Exit → Act → World → Prop
  | .normal, _, W' => KeepsOthers W W' ∧ (∃ b, I xs b W') ∧ IntsAt W' v x
  | .exit id, _, W' => KeepsOthers W W' ∧ Ix (.exit id) xs W'
  | _, _, _ => False
theorem range_rows {n : Nat} {g : Operand} {ps : Array Tmp} {assign body : Code} {Q : Exit → Act → World → Prop} {a : Act} {w : World} (h1 : 1 ≤ n) {gf : Nat} {lb : Array Value} (hg : a.eval g = .func (.func gf) #[] lb)
    (eg : ∀ args w, (callFunc gf args).run Try.prog w = .ok (.enter gf args) w) {L : List (List Int)} (hseq : SeqR (n - 1) gf lb L w) (hps : ps.size = 1)
    {β : Type} (I : List (List Int) → β → World → Prop) (bnd : β → Nat) (hbnd : ∀ pre b W, I pre b W → bnd b ≤ W.heap.size) (Ix : Code → List (List Int) → World → Prop)
    (hI : ∀ b, OwnFrom w.heap.size (fun s W => I s b W)) (hIx : ∀ c, OwnFrom w.heap.size (Ix c)) (b0 : β) (h0 : I [] b0 w) (a₁ : Value → Act)
    (hassign : ∀ (l : Nat) (v : Value) (W : World) (K : Act → World → Prop), K (a₁ v) W →
      assign.wpIn (Fence.wide.inRound l) (n - 1 - 1) Try.prog (Exit.then K (fun _ _ _ => False)) { tmps := (ps.zip #[v]).foldl (fun t (p, v) => t.setIfInBounds p v) a.tmps, defers := [] } W)
    (hbody : ∀ (l : Nat) (pre : List (List Int)) (b : β) (x : List Int) (v : Value) (W : World), I pre b W → RowAt (bnd b) x v W → (∃ r, L = pre ++ x :: r) → body.wpIn (Fence.wide.inRound l) (n - 1 - 1) Try.prog (postR I Ix (pre ++ [x]) x v W) (a₁ v) W)
    (hdone : ∀ (D : Nat) (b : β) (W : World), w.heap.size ≤ D → I L b W → W.heap[D]? = some (.deferred (some [])) → Q .normal { a with defers := { target := .collected D, args := #[] } :: a.defers } W)
    (hstop : ∀ (D : Nat) (c : Code) (pre : List (List Int)) (W : World), w.heap.size ≤ D → (∃ r, L = pre ++ r) → Ix c pre W → W.heap[D]? = some (.deferred (some [])) → c.wpIn Fence.wide n Try.prog Q { a with defers := { target := .collected D, args := #[] } :: a.defers } W) :
    (Code.rangeFunc g ps assign body).wpIn Fence.wide n Try.prog Q a w := by
  refine wpIn_rangeFunc fun fn hfn => ?_
  -- the record of the loop, in its three states
  let R (st : LoopState) (j : Option Code) : Obj := .loop { state := st, pending := j, fn, tmps := a.tmps, params := ps, assign, body, defers := w.heap.size }
  let lp := w.heap.size + 1
  let V := (w.alloc (.deferred (some []))).alloc (R .ready none)
  have sV : V.heap.size = w.heap.size + 1 + 1 := by simp [V]
  have vl : V.heap[lp]? = some (R .ready none) := by
    have := World.alloc_heap_new (w.alloc (.deferred (some []))) (R .ready none)
    rwa [World.size_alloc] at this
  have vd : V.heap[w.heap.size]? = some (.deferred (some [])) := (Below.heap_alloc _ _ _ (by simp)).trans (World.alloc_heap_new w _)
  have vb : Below w.heap.size w V := ((Below.refl _ w).alloc (Nat.le_refl _) _).alloc (by simp) _
  have vi : I [] b0 V := (hI b0).alloc _ ((hI b0).alloc _ h0)
  refine ⟨lp, [{ target := .collected w.heap.size, args := #[] }], V, { target := .fn (.func gf) lb, args := #[.func (.yield lp) #[] #[]] }, V, gf, #[.func (.yield lp) #[] #[]] ++ lb, V, ?_, ?_, fun _ _ => trivial, ?_, fun _ => h1, ?_⟩
  · exact run_enterLoop_outer _ _ _ _ _
  · simp only [resolve, hg]; simp [go_sem]
  · simp [invoke, go_sem, eg]
  · -- what the caller knows beside its own invariant: the record, and the block of the deferred calls
    have step : ∀ {A B : World} {row : Option Nat}, A.grownBy B row → (∀ r, row = some r → V.heap.size ≤ r ∧ ∃ o : Obj, A.heap[r]? = some o ∧ o.isWalk = true) →
        (∀ r, row = some r → w.heap.size ≤ r ∧ ∃ o : Obj, A.heap[r]? = some o ∧ o.isCells = false) ∧ ∀ (k : Nat) (o : Obj), A.heap[k]? = some o → o.isCells = false → o.isWalk = false → B.heap[k]? = some o := by
      intro A B row hgr hr
      have hr2 : ∀ r, row = some r → w.heap.size ≤ r ∧ ∃ o : Obj, A.heap[r]? = some o ∧ o.isCells = false := fun r e => by
        obtain ⟨h2, o, h3, h4⟩ := hr r e
        exact ⟨by rw [sV] at h2; omega, o, h3, Obj.not_cells_of_walk h4⟩
      refine ⟨hr2, fun k o hk hc hw => ?_⟩
      refine (hgr.block k (Array.getElem?_eq_some_iff.1 hk).1 fun e => ?_).trans hk
      obtain ⟨-, o2, h3, h4⟩ := hr k e.symm
      rw [hk] at h3
      cases h3
      rw [hw] at h4
      cases h4
    refine (hseq lp (fun pre W => (∃ b, I pre b W) ∧ W.heap[lp]? = some (R .ready none) ∧ W.heap[w.heap.size]? = some (.deferred (some [])))
      (fun pre W => ∃ c, Ix c pre W ∧ W.heap[lp]? = some (R .done (some c)) ∧ W.heap[w.heap.size]? = some (.deferred (some []))) V vb ?_ ?_ ?_ ⟨⟨b0, vi⟩, vl, vd⟩).mono ?_
    · rintro s A B row ⟨⟨b, hb⟩, hl, hd⟩ hgr hr
      obtain ⟨h2, h3⟩ := step hgr hr
      exact ⟨⟨b, hI b s A B row hb hgr h2⟩, h3 _ _ hl rfl rfl, h3 _ _ hd rfl rfl⟩
    · rintro s A B row ⟨c, hc, hl, hd⟩ hgr hr
      obtain ⟨h2, h3⟩ := step hgr hr
      exact ⟨c, hIx c s A B row hc hgr h2, h3 _ _ hl rfl rfl, h3 _ _ hd rfl rfl⟩
    · -- one round
      rintro pre x v W2 W ⟨⟨b, hb⟩, hl2, hd2⟩ hW hrow hx
      have hl : W.heap[lp]? = some (R .ready none) := (hW.block _ (Array.getElem?_eq_some_iff.1 hl2).1).trans hl2
      have hd : W.heap[w.heap.size]? = some (.deferred (some [])) := (hW.block _ (Array.getElem?_eq_some_iff.1 hd2).1).trans hd2
      have hbW : I pre b W := hI b pre W2 W none hb (grown_of_below hW) (fun r e => by cases e)
      have hrow1 : RowAt (bnd b) x v W := hrow.mono (hbnd _ _ _ hb)
      have hlt : lp < W.heap.size := (Array.getElem?_eq_some_iff.1 hl).1
      refine ⟨fn, _, assign, body, run_yield (P := Try.prog) (args := #[v]) hl hps.symm, roundIn_of_wpIn hfn (hassign _ v W _ ⟨_, run_beginRound hl rfl, ?_⟩)⟩
      let Wb := W.putObj lp (R .busy none)
      have bl : Wb.heap[lp]? = some (R .busy none) := World.putObj_heap_same hlt
      have bd : Wb.heap[w.heap.size]? = some (.deferred (some [])) := (World.putObj_heap_other (by simp [lp])).trans hd
      have bi : I pre b Wb := (hI b).putObj _ hbW (by simp [lp]) hl rfl
      have br : RowAt (bnd b) x v Wb := by
        obtain ⟨gk, ck, e1, e2, e3⟩ := hrow1
        exact ⟨gk, ck, e1, e2, ints_put e3 hl rfl⟩
      refine wpIn_mono (hbody lp pre b x v Wb bi br hx) ?_
      -- the end of the round
      have fin : ∀ (j : Option Code) (W3 : World), KeepsOthers Wb W3 → W3.heap[lp]? = some (R .busy none) ∧ (Instr.endRound lp j).run Try.prog W3 = .ok (.bool j.isNone) (W3.putObj lp (R (if j.isNone then .ready else .done) j)) ∧
          (W3.putObj lp (R (if j.isNone then .ready else .done) j)).heap[lp]? = some (R (if j.isNone then .ready else .done) j) ∧ (W3.putObj lp (R (if j.isNone then .ready else .done) j)).heap[w.heap.size]? = some (.deferred (some [])) := fun j W3 hk3 => by
        have h3 := hk3.same _ _ bl rfl
        exact ⟨h3, run_endRound (P := Try.prog) j h3, World.putObj_heap_same (Array.getElem?_eq_some_iff.1 h3).1, (World.putObj_heap_other (by simp [lp])).trans (hk3.same _ _ bd rfl)⟩
      rintro e a3 W3 hp
      cases e with
      | normal =>
        obtain ⟨hk3, ⟨b3, hi3⟩, hv3⟩ := hp
        obtain ⟨h3, hr, hl4, hd4⟩ := fin none W3 hk3
        exact ⟨_, _, hr, .inl ⟨rfl, ⟨⟨b3, (hI b3).putObj _ hi3 (by simp [lp]) h3 rfl⟩, hl4, hd4⟩, ints_put hv3 h3 rfl⟩⟩
      | exit id =>
        obtain ⟨hk3, hi3⟩ := hp
        obtain ⟨h3, hr, hl4, hd4⟩ := fin (some (.exit id)) W3 hk3
        exact ⟨_, _, hr, .inr ⟨rfl, .exit id, (hIx _).putObj _ hi3 (by simp [lp]) h3 rfl, hl4, hd4⟩⟩
      | ret => exact hp.elim
      | goto t => exact hp.elim
      | panic ch => exact hp.elim
      | outgrown => exact hp.elim
    · -- behind the iterator
      rintro e W2 ⟨⟨v, rfl⟩, (⟨⟨b, hb⟩, hl, hd⟩ | ⟨pre, hp, c, hc, hl, hd⟩)⟩
      · exact ⟨none, _, run_endLoop (P := Try.prog) hl (by simp), hdone _ b _ (Nat.le_refl _) ((hI b).putObj _ hb (by simp [lp]) hl rfl) ((World.putObj_heap_other (by simp [lp])).trans hd)⟩
      · exact ⟨some c, _, run_endLoop (P := Try.prog) hl (by simp), hstop _ c pre _ (Nat.le_refl _) hp ((hIx c).putObj _ hc (by simp [lp]) hl rfl) ((World.putObj_heap_other (by simp [lp])).trans hd)⟩
open Go.RowKit
attribute [local go_sem] Oper.semAt_some

/-- A list of lists of numbers lies behind a slice. -/
def RowsAt (w : World) (v : Value) (L : List (List Int)) : Prop :=
  ∃ a cap, v = .slice a L.length cap ∧ L.length ≤ maxLen ∧ (L ≠ [] → ∃ b off, a = some ⟨b, off, none⟩ ∧ ∀ (i : Nat) (x : List Int), L[i]? = some x → ∃ u, w.cell? ⟨b, off + i, none⟩ = some u ∧ IntsAt w u x)
theorem RowsAt.step {w w1 : World} {v : Value} {L : List (List Int)} (h : RowsAt w v L) (hb : Below w.heap.size w w1) : RowsAt w1 v L := by
  obtain ⟨a, cap, hv, hm, hc⟩ := h
  refine ⟨a, cap, hv, hm, fun hl => ?_⟩
  obtain ⟨b, off, ha, hx⟩ := hc hl
  refine ⟨b, off, ha, fun i x hi => ?_⟩
  obtain ⟨u, h1, h2⟩ := hx i x hi
  exact ⟨u, keep1 hb h1, h2.step hb⟩
theorem rows_get {L : List (List Int)} {k : Nat} (h : k < L.length) : L[k]? = some (L.getD k []) := by simp [h]
theorem lvs_take {L : List (List Int)} {k : Nat} (h : k < L.length) : (lvs L).take (k + 1) = (lvs L).take k ++ [lf (L.getD k [])] := by
  rw [List.take_succ_eq_append_getElem (by simpa [lvs] using h)]; simp [lvs, h]
theorem lvs_len (L : List (List Int)) : (lvs L).length = L.length := by simp [lvs]
/-- A block lies whole. -/
def BoxN (W : World) (B : Nat) (vs : Array Value) (t : TypeId) : Prop := W.heap[B]? = some (.cells vs t (0, 0))
theorem BoxN.lt {W : World} {B : Nat} {t : TypeId} {vs : Array Value} (h : BoxN W B vs t) : B < W.heap.size := (Array.getElem?_eq_some_iff.1 h).1
theorem BoxN.cell {W : World} {B : Nat} {t : TypeId} {vs : Array Value} (h : BoxN W B vs t) (j : Nat) : W.cell? ⟨B, j, none⟩ = vs[j]? := by simp [World.cell?, show W.heap[B]? = _ from h]
theorem BoxN.new (W : World) (vs : Array Value) (t : TypeId) : BoxN (W.alloc (.cells vs t)) W.heap.size vs t := World.alloc_heap_new W _
theorem BoxN.step {W W' : World} {B : Nat} {t : TypeId} {vs : Array Value} (h : BoxN W B vs t) (hb : Below W.heap.size W W') : BoxN W' B vs t := (hb.block B h.lt).trans h
/-- How long a slice is. -/
def lenOf : Value → Nat
  | .slice _ n _ => n
  | _ => 0
/-- The row that stands at the loop's head, and what the caller knows. -/
def HeadR (J : List (List Int) → World → Prop) (pre : List (List Int)) (x : List Int) (rv : Value) (wr : World) : Prop :=
  ∃ W2, J pre W2 ∧ Below W2.heap.size W2 wr ∧ ((x = [] ∧ ∃ a c, rv = .slice a 0 c) ∨ (x ≠ [] ∧ RowAt W2.heap.size x rv wr))
theorem HeadR.len {J : List (List Int) → World → Prop} {pre : List (List Int)} {x : List Int} {rv : Value} {wr : World} (h : HeadR J pre x rv wr) : ∃ a c, rv = .slice a x.length c := by
  obtain ⟨-, -, -, ⟨rfl, a, c, rfl⟩ | ⟨-, g, c, rfl, -⟩⟩ := h
  · exact ⟨_, _, rfl⟩
  · exact ⟨_, _, rfl⟩
theorem HeadR.row {J : List (List Int) → World → Prop} {pre : List (List Int)} {x : List Int} {rv : Value} {W2 wr : World} {base : Nat} (hj : J pre W2) (hb : Below W2.heap.size W2 wr) (hs : W2.heap.size ≤ base) (h : wr.ownsRow base 3 1 rv x.length (x.map (Value.int .i64))) : HeadR J pre x rv wr := by
  refine ⟨W2, hj, hb, ?_⟩
  by_cases hx : x = []
  · subst hx
    obtain ⟨a, c, e⟩ := row_slice h
    exact .inl ⟨rfl, a, c, e⟩
  · exact .inr ⟨hx, (row_at h hx).mono hs⟩
theorem rows_any (a : Option Addr) (n c : Nat) (w : World) : Calls Try.prog 67 #[.slice a n c] w fun e w' => e = .returned (.func (.func 76) #[] #[.pointer (some ⟨w.heap.size, 0, none⟩)]) ∧ w' = w.alloc (.cells #[.slice a n c] 25) := by
  go_enter Try.func67, Try.ntmps67
  go_wp2
  go_ret
  exact ⟨rfl, rfl⟩
set_option maxRecDepth 100000 in
set_option maxHeartbeats 2000000 in
theorem iterR (L : List (List Int)) (v : Value) (w0 : World) (hl : RowsAt w0 v L) (h9 : L.length ≤ 1000) (n : Nat) (hn : 1 ≤ n) (lp B1 : Nat) (J Jx : List (List Int) → World → Prop) (hY : RoundR n (rowsT (lvs L)) lp J Jx)
    (W : World) (hA : AbidesFrom W.heap.size J) (hB0 : Below w0.heap.size w0 W) (hx1 : BoxN W B1 #[v] 25) (h0 : J [] W) :
    CallsIn Fence.wide n Try.prog 76 #[.func (.yield lp) #[] #[], .pointer (some ⟨B1, 0, none⟩)] W fun e W' => (∃ v, e = .returned v) ∧
      (J (rowsT (lvs L)) W' ∨ ∃ pre, (∃ r, rowsT (lvs L) = pre ++ r) ∧ Jx pre W') := by
  have HL := Lib.hid (hl.step hB0)
  obtain ⟨a, cap, rfl, -, -⟩ := hl
  obtain ⟨i0, hi, hz0, hz1, hz2⟩ := info_parts infoInt
  have HY := Lib.hid hY
  have HJ0 := Lib.hid (show ∀ s A B, J s A → Below A.heap.size A B → J s B from fun s A B h hb => hA s A B none h (grown_of_below hb) (by simp))
  have k1 := (hx1.cell 0).trans (rfl : _ = some (Value.slice a L.length cap))
  have l1 := hx1.lt
  have H9 := Lib.hid h9
  have H0 := Lib.hid h0
  clear hx1 hY hA hB0 h0
  refine callsIn_of_wp Try.func76 rfl trivial ?_ rfl
  simp only [Try.ntmps76, List.size_toArray, List.length_cons, List.length_nil, Nat.reduceAdd, Nat.reduceSub, Array.replicate_succ, Array.replicate_zero, List.push_toArray, List.append_toArray, List.nil_append, List.cons_append]
  gi_wp2
  gi_loopw [3, 8] (fun rv i wr => ∃ k : Nat, k ≤ L.length ∧ i = .int .i64 k ∧ Hid (wr.ownsRow W.heap.size 3 1 rv k (((lvs L).take k).map (Value.int .i64))) ∧ Hid (Below W.heap.size W wr)) (fun _ i _ => L.length - (intOf i).toNat)
  case atStart => exact ⟨0, by omega, rfl, Lib.hid (by rw [List.take_zero]; exact World.ownsRow_nil _ _ _ _), Lib.hid (Below.refl _ _)⟩
  case round =>
    obtain ⟨k, hk, rfl, HR, HW⟩ := hrel
    obtain ⟨na, nc, rfl⟩ := row_slice HR.out
    by_cases hlt : k < L.length
    · obtain ⟨a2, cap2, hva, -, hcs⟩ := HL.out.step HW.out
      obtain ⟨rfl, rfl⟩ : a = a2 ∧ cap = cap2 := by simpa using hva
      obtain ⟨b, off, rfl, hcs2⟩ := hcs (by intro h; rw [h] at hlt; simp at hlt)
      obtain ⟨x, hx⟩ : ∃ x, L.getD k [] = x := ⟨_, rfl⟩
      obtain ⟨u, x0, hu⟩ := hcs2 k _ (rows_get hlt)
      rw [hx] at hu
      have HU := Lib.hid hu
      obtain ⟨ua, uc, rfl, -, -⟩ := hu
      have ht := lvs_take hlt
      rw [hx] at ht
      have HT := Lib.hid ht
      clear ht hx
      clear hcs hcs2 hva
      gi_wp2_with fail
      refine ⟨trivial, ?_⟩
      refine (callsIn_wide.2 (digest_any _ x _ HU.out)).mono ?_
      rintro e w' ⟨rfl, rfl⟩
      obtain ⟨d1, hd1⟩ : ∃ z, Dg x = z := ⟨_, rfl⟩
      rw [hd1]
      have HI := Lib.hid (ints_lit wr [0, d1] #[.int .i64 0, .int .i64 d1] 3 rfl (by simp) 2 rfl wr.heap.size rfl)
      gi_wp2_with fail
      refine ⟨trivial, ?_⟩
      refine (callsIn_wide.2 (digest_any _ [0, d1] _ HI.out)).mono ?_
      rintro e w' ⟨rfl, rfl⟩
      obtain ⟨d2, hd2⟩ : ∃ z, Dg [0, d1] = z := ⟨_, rfl⟩
      rw [hd2]
      have HD := Lib.hid (show lf x = d2 by unfold lf; rw [hd1, hd2])
      clear hd1 hd2 HI
      have hbw := Lib.hid (show Below wr.heap.size wr ((wr.alloc (.cells #[.int .i64 0, .int .i64 d1] 3)).alloc (.cells #[.int .i64 d2] 3)) from al2)
      have hn1 := Lib.hid (show Cs ((wr.alloc (.cells #[.int .i64 0, .int .i64 d1] 3)).alloc (.cells #[.int .i64 d2] 3)) (wr.heap.size + 1) #[.int .i64 d2] from Cs.new _ _ _ _ (by simp))
      have c3 := Lib.hid HW.out.size
      have h9 := H9.out
      gi_wp2_with (gi_at_builtin; refine wpListIn_append_own _ rfl _ _ 22 rfl W.heap.size 3 i0 (.int .i64 0) 1 8 Try.underlying22 hi hz0 hz1 hz2 rfl (by decide) _ _ _ rfl (row_step HR.out hbw.out) ⟨wr.heap.size + 1, 0, none⟩ 1 1 [.int .i64 d2] rfl rfl (one_at hn1.out) (by simp [Value.oneCell']) (by unfold maxLen; omega) (by omega) (Nat.le_trans c3.out hbw.out.size) ?_; intro v' w1 hown' hgrow _; have HR1 := Lib.hid hown'; have HB1 := Lib.hid ((HW.out.trans (hbw.out.mono c3.out)).grown hgrow (Nat.le_trans c3.out hbw.out.size) (fun k e => row_own (row_step HR.out hbw.out) e)); clear hown' hgrow)
      go_roundw
      case rel => exact ⟨k + 1, hlt, by go_num, Lib.hid (by rw [HT.out, List.map_append, List.map_cons, List.map_nil, HD.out]; exact HR1.out), HB1⟩
      case measure => simp [intOf]; omega
    · obtain rfl : k = L.length := by omega
      have HH := Lib.hid (show HeadR J [] (lvs L) (.slice na L.length nc) wr from HeadR.row H0.out HW.out (Nat.le_refl _) (by
        have h := HR.out
        rw [List.take_of_length_le (by rw [lvs_len]; omega)] at h
        rw [lvs_len]; exact h))
      clear HR HW H0 HL
      gi_wp2_with fail
      gi_loopw [3] (fun rv wr => ∃ pre x, rowsT (lvs L) = pre ++ rowsT x ∧ x.length ≤ 1000 ∧ Hid (HeadR J pre x rv wr)) (fun rv _ => lenOf rv)
      case atStart => exact ⟨[], lvs L, rfl, by rw [lvs_len]; exact H9.out, HH⟩
      case round =>
        clear HH hk hlt
        obtain ⟨pre, x, hp, h9x, HH⟩ := hrel
        obtain ⟨ra, rc, rfl⟩ := HH.out.len
        have HP := Lib.hid hp
        have HX := Lib.hid h9x
        clear hp
        by_cases h1 : 1 < x.length
        · obtain ⟨W2, hj, hb, ⟨e, -⟩ | ⟨hne, hrow⟩⟩ := HH.out
          · rw [e] at h1; simp at h1
          have HM := Lib.hid (rowsT_more h1)
          have g1 : ((x.length : Int) > 1) = True := by simp; omega
          have g2 : decide ((x.length : Int) > 1) = true := by simp; omega
          have g3 : decide ((1 : Int) < x.length) = true := by simp; omega
          obtain ⟨fn, tmps, assign, body, hy, hRR⟩ := HY.out pre x _ W2 _ hj hb hrow ⟨_, HP.out.trans (by rw [HM.out])⟩
          clear hj hb hrow HH
          gi_wp2_with fail
          refine hRR.mono ?_
          rintro e W4 (⟨rfl, hJ4, hv4⟩ | ⟨rfl, hJx4⟩)
          · have HJ4 := Lib.hid hJ4
            have HV4 := Lib.hid hv4
            clear hJ4 hv4 hRR hy g1 g2 g3
            gi_wp2_with fail
            refine ⟨trivial, ?_⟩
            refine (callsIn_wide.2 (above_any _ x _ HV4.out HX.out)).mono ?_
            rintro e w5 ⟨r, rfl, hr, hb5⟩
            obtain ⟨ba, bc, rfl⟩ := row_slice hr
            have HH5 := Lib.hid (HeadR.row HJ4.out hb5 (Nat.le_refl _) hr)
            clear hr hb5
            gi_wp2
            go_roundw
            case rel => exact ⟨pre ++ [x], upR x, by rw [HP.out, HM.out, List.append_assoc]; rfl, by rw [upR_len]; have := HX.out; omega, HH5⟩
            case measure => simp only [lenOf, upR_len]; omega
          · have HJ4 := Lib.hid hJx4
            clear hJx4 hRR hy g1 g2 g3
            have g4 : ((x.length : Int) == 1) = false := by simp; omega
            have g5 : ((x.length : Int) = 1) = False := by simp; omega
            gi_wp2_with fail
            go_end0
            exact ⟨⟨_, rfl⟩, .inr ⟨_, ⟨rowsT (upR x), by rw [HP.out, HM.out, List.append_assoc]; rfl⟩, HJ4.out⟩⟩
        · have g1 : ((x.length : Int) > 1) = False := by simp; omega
          have g2 : decide ((x.length : Int) > 1) = false := by simp; omega
          have g3 : decide ((1 : Int) < x.length) = false := by simp; omega
          gi_wp2_with fail
          refine ⟨(fun _ h => by cases h), ?_⟩
          by_cases h2 : x.length = 1
          · obtain ⟨W2, hj, hb, ⟨e, -⟩ | ⟨hne, hrow⟩⟩ := HH.out
            · rw [e] at h2; simp at h2
            have HM := Lib.hid (rowsT_one h2)
            obtain ⟨fn, tmps, assign, body, hy, hRR⟩ := HY.out pre x _ W2 _ hj hb hrow ⟨_, HP.out.trans (by rw [HM.out])⟩
            have HE := Lib.hid (show rowsT (lvs L) = pre ++ [x] from HP.out.trans (by rw [HM.out]))
            clear hj hb hrow HH
            rw [h2] at hy ⊢
            gi_wp2_with fail
            refine hRR.mono ?_
            rintro e W4 (⟨rfl, hJ4, hv4⟩ | ⟨rfl, hJx4⟩)
            · have HJ4 := Lib.hid hJ4
              clear hJ4 hv4 hRR hy g1 g2 g3
              gi_wp2
              go_end0
              exact ⟨⟨_, rfl⟩, .inl (by rw [HE.out]; exact HJ4.out)⟩
            · have HJ4 := Lib.hid hJx4
              clear hJx4 hRR hy g1 g2 g3
              gi_wp2
              go_end0
              exact ⟨⟨_, rfl⟩, .inr ⟨_, ⟨[], by rw [HE.out, List.append_nil]⟩, HJ4.out⟩⟩
          · have hx0 : x = [] := List.length_eq_zero_iff.1 (by omega)
            subst hx0
            obtain ⟨W2, hj, hb, -⟩ := HH.out
            have HJ4 := Lib.hid (HJ0.out _ _ _ hj hb)
            clear hj hb HH
            gi_wp2
            go_end0
            exact ⟨⟨_, rfl⟩, .inl (by rw [HP.out, rowsT_none, List.append_nil]; exact HJ4.out)⟩
theorem iterR_seq (L : List (List Int)) (v : Value) (w0 : World) (hl : RowsAt w0 v L) (h9 : L.length ≤ 1000) (n : Nat) (hn : 1 ≤ n) (B1 : Nat) (w : World) (hB : Below w0.heap.size w0 w) (h1 : BoxN w B1 #[v] 25) :
    SeqR n 76 #[.pointer (some ⟨B1, 0, none⟩)] (rowsT (lvs L)) w := fun lp J Jx W hW hA _ hY h0 => iterR L v w0 hl h9 n hn lp B1 J Jx hY W hA (hB.trans (hW.mono hB.size)) (h1.step hW) h0
end Go.Proofs.Yteodafhgfcbdpaa
