import Derived.Test.YtolinnmhdclgpaaCj
import Derived.Deep.AppendLies
import Derived.Deep.CutRange
import Derived.BigQuiet
namespace Go.Proofs.Ytolinnmhdclgpaa
open Go.RowKit

/-- A block is not that of an address. -/
def nb (x : Option Addr) (k : Nat) : Prop := ∀ g o, x = some ⟨g, o, none⟩ → g ≠ k
def nb2 (x y : Option Addr) : Prop := ∀ g o g' o', x = some ⟨g, o, none⟩ → y = some ⟨g', o', none⟩ → g ≠ g'
/-- A list's block is none of the run's own. -/
def Far (la : Option Addr) (kw kl : Nat) (x : Option Addr) : Prop := nb2 x la ∧ nb x kw ∧ nb x kl
theorem far_fresh {la x : Option Addr} {kw kl N : Nat} (h : ∀ g o, x = some ⟨g, o, none⟩ → N ≤ g) (h1 : ∀ g o, la = some ⟨g, o, none⟩ → g < N) (h2 : kw < N) (h3 : kl < N) : Far la kw kl x :=
  ⟨fun g o g' o' e e' => by have := h g o e; have := h1 g' o' e'; omega, fun g o e => by have := h g o e; omega, fun g o e => by have := h g o e; omega⟩
structure WT (base kb kw kl : Nat) (la : Option Addr) (lc : Nat) (L : List Od) (v : Int) (D : Nat) (c : Int) (z : Od) (V : List Int) (M : List Od) (w : World) : Prop where
  bb : ∃ (ua : Option Addr) (uc : Nat) (fa : Option Addr) (fc : Nat), BoxN w kb #[.slice ua V.length uc, .slice fa M.length fc] 25 ∧ Rb V M ua uc fa fc w ∧ (V ≠ [] → Far la kw kl ua) ∧ (M ≠ [] → Far la kw kl fa)
  wb : Cs w kw #[.int .i64 v, .int .i64 (D : Int), .int .i64 c]
  zb : Cs w kl #[.int .i64 z.a, .int .i64 z.b, .int .i64 z.c, .int .i64 z.d]
  row : w.ownsRow base 27 4 (.slice la L.length lc) L.length (ocs L)
  bs : base ≤ w.heap.size
  k1 : kb < base ∧ kw < base ∧ kl < base
  k2 : kb ≠ kw ∧ kb ≠ kl ∧ kw ≠ kl
theorem WT.step {base kb kw kl : Nat} {la : Option Addr} {lc : Nat} {L : List Od} {v : Int} {D : Nat} {c : Int} {z : Od} {V : List Int} {M : List Od} {w : World} {w' : World} (h : WT base kb kw kl la lc L v D c z V M w) (hb : Below w.heap.size w w') : WT base kb kw kl la lc L v D c z V M w' := by
  obtain ⟨ua, uc, fa, fc, h1, h2, h3, h4⟩ := h.bb
  exact ⟨⟨ua, uc, fa, fc, h1.step hb, h2.step hb, h3, h4⟩, h.wb.step hb, h.zb.step hb, row_step h.row hb, Nat.le_trans h.bs hb.size, h.k1, h.k2⟩
theorem chg_grown {k : Nat} {w w' : World} (hc : Chg k w w') : w.grownBy w' (some k) := ⟨hc.os, hc.tape, hc.output, hc.size, fun j hj hr => hc.block j hj (fun e => hr (by rw [e]))⟩
theorem row_chg {k base e s n c m : Nat} {a : Option Addr} {xs : List Value} {w w' : World} (h : w.ownsRow base e s (.slice a n c) m xs) (hc : Chg k w w') (hk : k < base) : w'.ownsRow base e s (.slice a n c) m xs := by
  refine h.kept (chg_grown hc) ?_
  cases a with
  | none => exact .inl rfl
  | some ad =>
    refine .inr ?_
    rcases h.2 with ⟨e, -⟩ | ⟨g, cap, cur, e, h1, -⟩
    · cases e
    · cases e
      intro q
      have : g = k := by simpa [Value.ownBlock] using q
      omega
theorem rb_chg {k : Nat} {V : List Int} {M : List Od} {ua fa : Option Addr} {uc fc : Nat} {w w' : World} (h : Rb V M ua uc fa fc w) (hc : Chg k w w') (h1 : V ≠ [] → nb ua k) (h2 : M ≠ [] → nb fa k) : Rb V M ua uc fa fc w' := by
  constructor
  · by_cases hl : V = []
    · obtain ⟨a, c, e, hm, -⟩ := h.1
      exact ⟨a, c, e, hm, fun q => absurd hl q⟩
    · exact hc.ints (h1 hl) h.1
  · by_cases hl : M = []
    · obtain ⟨a, c, e, h1, hm, -⟩ := h.2
      exact ⟨a, c, e, h1, hm, fun q => absurd hl q⟩
    · exact hc.ods (h2 hl) h.2
/-- The belief's box gets another belief. -/
theorem WT.putB {base kb kw kl : Nat} {la : Option Addr} {lc : Nat} {L : List Od} {v : Int} {D : Nat} {c : Int} {z : Od} {V : List Int} {M : List Od} {w : World} {V' : List Int} {M' : List Od} {ua fa : Option Addr} {uc fc : Nat} (h : WT base kb kw kl la lc L v D c z V M w) (hr : Rb V' M' ua uc fa fc w) (h1 : V' ≠ [] → Far la kw kl ua) (h2 : M' ≠ [] → Far la kw kl fa) :
    WT base kb kw kl la lc L v D c z V' M' (putB w kb (.slice ua V'.length uc) (.slice fa M'.length fc)) := by
  obtain ⟨_, _, _, _, b1, -⟩ := h.bb
  have hc := putB_chg w kb (.slice ua V'.length uc) (.slice fa M'.length fc)
  exact ⟨⟨ua, uc, fa, fc, putB_box b1 _ _, hr.kept hc (sl_of b1), h1, h2⟩, hc.cs (Ne.symm h.k2.1) h.wb, hc.cs (Ne.symm h.k2.2.1) h.zb, row_chg h.row hc h.k1.1, Nat.le_trans h.bs hc.size, h.k1, h.k2⟩
/-- The last order's box is written. -/
theorem WT.setZ {base kb kw kl : Nat} {la : Option Addr} {lc : Nat} {L : List Od} {v : Int} {D : Nat} {c : Int} {z : Od} {V : List Int} {M : List Od} {w : World} {z' : Od} {w' : World} (h : WT base kb kw kl la lc L v D c z V M w) (hc : Chg kl w w') (hcs : Cs w' kl #[.int .i64 z'.a, .int .i64 z'.b, .int .i64 z'.c, .int .i64 z'.d]) : WT base kb kw kl la lc L v D c z' V M w' := by
  obtain ⟨ua, uc, fa, fc, h1, h2, h3, h4⟩ := h.bb
  exact ⟨⟨ua, uc, fa, fc, (hc.block kb h1.lt h.k2.2.1).trans h1, rb_chg h2 hc (fun q => (h3 q).2.2) (fun q => (h4 q).2.2), h3, h4⟩, hc.cs h.k2.2.2 h.wb, hcs, row_chg h.row hc h.k1.2.2, Nat.le_trans h.bs hc.size, h.k1, h.k2⟩
theorem row_lt {w : World} {base e s n c m : Nat} {a : Option Addr} {xs : List Value} (h : w.ownsRow base e s (.slice a n c) m xs) : ∀ g o, a = some ⟨g, o, none⟩ → g < w.heap.size := by
  intro g o ha
  subst ha
  rcases h.2 with ⟨e, -⟩ | ⟨g', cap, cur, e, h1, h2, -⟩
  · cases e
  · cases e
    exact (Array.getElem?_eq_some_iff.1 h2).1
theorem ints_lt {w : World} {a : Option Addr} {n c : Nat} {l : List Int} (h : IntsAt w (.slice a n c) l) (hl : l ≠ []) : ∀ g o, a = some ⟨g, o, none⟩ → g < w.heap.size := by
  obtain ⟨a1, cap, hv, hm, hc⟩ := h
  obtain ⟨b1, off, ha, hx⟩ := hc hl
  intro g o e
  have ea : a = a1 := by simp at hv; exact hv.1
  rw [ea, ha] at e
  cases e
  exact World.block_lt_of_cell? _ _ (hx 0 _ (List.getElem?_eq_getElem (List.length_pos_iff.2 hl)))
theorem ods_lt {w : World} {a : Option Addr} {n c : Nat} {l : List Od} (h : OdsAt w (.slice a n c) l) (hl : l ≠ []) : ∀ g o, a = some ⟨g, o, none⟩ → g < w.heap.size := by
  obtain ⟨a1, cap, hv, h1, hm, hc⟩ := h
  obtain ⟨b1, off, ha, hx⟩ := hc hl
  intro g o e
  have ea : a = a1 := by simp at hv; exact hv.1
  rw [ea, ha] at e
  cases e
  exact World.block_lt_of_cell? _ _ (hx 0 _ (List.getElem?_eq_getElem (List.length_pos_iff.2 hl))).1
theorem grown_cs {w w' : World} {k : Nat} {vs : Array Value} {r : Option Nat} (h : Cs w k vs) (hg : w.grownBy w' r) (hr : some k ≠ r) : Cs w' k vs :=
  ⟨fun j hj => (World.cell?_of_block (a := ⟨k, j, none⟩) (hg.block k h.2.2 hr)).trans (h.1 j hj), fun j hj => (World.frozen?_of_block (a := ⟨k, j, none⟩) (hg.block k h.2.2 hr)).trans (h.2.1 j hj), Nat.lt_of_lt_of_le h.2.2 hg.size⟩
theorem grown_ints {w w' : World} {a : Option Addr} {n c : Nat} {l : List Int} {r : Option Nat} (h : IntsAt w (.slice a n c) l) (hg : w.grownBy w' r) (hr : l ≠ [] → ∀ g o, a = some ⟨g, o, none⟩ → some g ≠ r) : IntsAt w' (.slice a n c) l := by
  obtain ⟨a1, cap, hv, hm, hc⟩ := h
  refine ⟨a1, cap, hv, hm, fun hl => ?_⟩
  obtain ⟨b1, off, ha, hx⟩ := hc hl
  have hn := hr hl b1 off ((by simp at hv; exact hv.1 : a = a1).trans ha)
  exact ⟨b1, off, ha, fun i x hi => hg.cell (hx i x hi) hn⟩
theorem grown_ods {w w' : World} {a : Option Addr} {n c : Nat} {l : List Od} {r : Option Nat} (h : OdsAt w (.slice a n c) l) (hg : w.grownBy w' r) (hr : l ≠ [] → ∀ g o, a = some ⟨g, o, none⟩ → some g ≠ r) : OdsAt w' (.slice a n c) l := by
  obtain ⟨a1, cap, hv, h1, hm, hc⟩ := h
  refine ⟨a1, cap, hv, h1, hm, fun hl => ?_⟩
  obtain ⟨b1, off, ha, hx⟩ := hc hl
  have hn := hr hl b1 off ((by simp at hv; exact hv.1 : a = a1).trans ha)
  refine ⟨b1, off, ha, fun i x hi => ?_⟩
  obtain ⟨q0, q1, q2, q3⟩ := hx i x hi
  exact ⟨hg.cell q0 hn, hg.cell q1 hn, hg.cell q2 hn, hg.cell q3 hn⟩
theorem own_some {w : World} {base e s n c m k : Nat} {a : Option Addr} {xs : List Value} (h : w.ownsRow base e s (.slice a n c) m xs) (hk : some k = (Value.slice a n c).ownBlock) : ∃ o, a = some ⟨k, o, none⟩ ∧ base ≤ k := by
  rcases h.2 with ⟨e, -⟩ | ⟨g, cap, cur, e, h1, -⟩
  · cases e; simp [Value.ownBlock] at hk
  · cases e
    have : k = g := by simpa [Value.ownBlock] using hk
    subst this
    exact ⟨0, rfl, h1⟩
/-- An order is appended to the row of the orders. -/
theorem WT.app {base kb kw kl : Nat} {la : Option Addr} {lc : Nat} {L : List Od} {v : Int} {D : Nat} {c : Int} {z : Od} {V : List Int} {M : List Od} {w : World} {la' : Option Addr} {lc' : Nat} {x : Od} {w' : World} (h : WT base kb kw kl la lc L v D c z V M w) (hg : w.grownBy w' (Value.slice la L.length lc).ownBlock) (hr : w'.ownsRow base 27 4 (.slice la' (L ++ [x]).length lc') (L ++ [x]).length (ocs (L ++ [x])))
    (ha : (Value.slice la' (L ++ [x]).length lc').ownBlock = (Value.slice la L.length lc).ownBlock ∨ ∀ k, (Value.slice la' (L ++ [x]).length lc').ownBlock = some k → w.heap.size ≤ k) : WT base kb kw kl la' lc' (L ++ [x]) v D c z V M w' := by
  obtain ⟨ua, uc, fa, fc, h1, h2, h3, h4⟩ := h.bb
  have hk : ∀ k, k < base → some k ≠ (Value.slice la L.length lc).ownBlock := fun k hk e => by
    obtain ⟨-, -, h5⟩ := own_some h.row e; omega
  have hx : ∀ a : Option Addr, nb2 a la → ∀ g o, a = some ⟨g, o, none⟩ → some g ≠ (Value.slice la L.length lc).ownBlock := fun a hn g o e q => by
    obtain ⟨o', h5, -⟩ := own_some h.row q
    exact hn g o g o' e h5 rfl
  have hl' : ∀ a : Option Addr, (∀ g o, a = some ⟨g, o, none⟩ → g < w.heap.size) → nb2 a la → nb2 a la' := fun a hlt hn g o g' o' e e' => by
    rcases ha with q | q
    · have h6 : (Value.slice la' (L ++ [x]).length lc').ownBlock = some g' := by
        rcases hr.2 with ⟨e2, -⟩ | ⟨g2, cap, cur, e2, -⟩
        · have e3 : la' = none := by injection e2
          rw [e3] at e'; cases e'
        · have e3 : la' = some ⟨g2, 0, none⟩ := by injection e2
          rw [e3] at e' ⊢; cases e'; rfl
      rw [q] at h6
      obtain ⟨o2, h7, -⟩ := own_some h.row h6.symm
      exact hn g o g' o2 e h7
    · have h6 : (Value.slice la' (L ++ [x]).length lc').ownBlock = some g' := by
        rcases hr.2 with ⟨e2, -⟩ | ⟨g2, cap, cur, e2, -⟩
        · have e3 : la' = none := by injection e2
          rw [e3] at e'; cases e'
        · have e3 : la' = some ⟨g2, 0, none⟩ := by injection e2
          rw [e3] at e' ⊢; cases e'; rfl
      have := q g' h6
      have := hlt g o e
      omega
  refine ⟨⟨ua, uc, fa, fc, (hg.block kb h1.lt (hk kb h.k1.1)).trans h1, ⟨grown_ints h2.1 hg (fun q => hx ua (h3 q).1), grown_ods h2.2 hg (fun q => hx fa (h4 q).1)⟩, fun q => ⟨hl' ua (ints_lt h2.1 q) (h3 q).1, (h3 q).2⟩, fun q => ⟨hl' fa (ods_lt h2.2 q) (h4 q).1, (h4 q).2⟩⟩, grown_cs h.wb hg (hk kw h.k1.2.1), grown_cs h.zb hg (hk kl h.k1.2.2), hr, Nat.le_trans h.bs hg.size, h.k1, h.k2⟩
theorem WT.below {base kb kw kl : Nat} {la : Option Addr} {lc : Nat} {L : List Od} {v : Int} {D : Nat} {c : Int} {z : Od} {V : List Int} {M : List Od} {w : World} (_ : WT base kb kw kl la lc L v D c z V M w) {lo : Nat} {w1 : World} (hb : Below lo w1 w) (hlo : lo ≤ base) {w' : World} (hg : w.grownBy w' (Value.slice la L.length lc).ownBlock) (hr : w.ownsRow base 27 4 (.slice la L.length lc) L.length (ocs L)) (hs : lo ≤ w.heap.size) : Below lo w1 w' :=
  hb.grown hg hs fun k ek => by
    obtain ⟨-, -, h5⟩ := own_some hr ek.symm
    omega
/-- A change's answer, its lists being new. -/
def ChF (V : List Int) (M : List Od) (E : Int) (w : World) (e : Ending) (w' : World) : Prop :=
  ∃ (ua : Option Addr) (uc : Nat) (fa : Option Addr) (fc : Nat), e = .returned (.tuple #[.agg #[.slice ua V.length uc, .slice fa M.length fc], .int .i64 E]) ∧ Below w.heap.size w w' ∧ Rb V M ua uc fa fc w' ∧ (∀ g o, ua = some ⟨g, o, none⟩ → w.heap.size ≤ g) ∧ ∀ g o, fa = some ⟨g, o, none⟩ → w.heap.size ≤ g
theorem chf_of {w w' : World} {E : Int} {M : List Od} {e : Ending} (h : ChP w E M e w') : ChF (rV E M) (rM E M) E w e w' := by
  obtain ⟨bv, he, hb, h1, h2⟩ := h
  unfold rV rM
  by_cases hE : E = 0
  · obtain ⟨ua, uc, fa, fc, rfl, hi, ho, ku, kf⟩ := h2 hE
    rw [if_pos hE, if_pos hE]
    exact ⟨ua, uc, fa, fc, he, hb, ⟨hi, ho⟩, ku, kf⟩
  · have hz := h1 hE
    rw [if_neg hE, if_neg hE]
    exact ⟨none, 0, none, 0, by rw [he, hz]; rfl, hb, ⟨ints_nil w', ods_nil w'⟩, fun g o e => (by cases e), fun g o e => (by cases e)⟩
theorem sent_f {V V' : List Int} {L M' : List Od} (o : Od) {E : Int} (hE : snE V L o = E) (hV' : rV E (L ++ [o]) = V') (hM' : rM E (L ++ [o]) = M') (va : Option Addr) (vc : Nat) (sa : Option Addr) (sc : Nat) (w : World) (h : Rb V L va vc sa sc w) (h9 : L.length ≤ 300) (h8 : V.length ≤ 300) :
    Calls Try.prog 11 #[.agg #[.slice va V.length vc, .slice sa L.length sc], .agg #[.int .i64 o.a, .int .i64 o.b, .int .i64 o.c, .int .i64 o.d]] w (ChF V' M' E w) := by
  subst hV' hM' hE
  exact (sent_any va vc V sa sc L o w h.2 h.1 h9 h8 _ rfl).mono fun e w' q => chf_of q
theorem confirmed_f {V V' : List Int} {L M' : List Od} (q : Int) {E : Int} (hE : cnE V L q = E) (hV' : rV E (cfM q L) = V') (hM' : rM E (cfM q L) = M') (va : Option Addr) (vc : Nat) (sa : Option Addr) (sc : Nat) (w : World) (h : Rb V L va vc sa sc w) (h9 : L.length ≤ 300) (h8 : V.length ≤ 300) :
    Calls Try.prog 13 #[.agg #[.slice va V.length vc, .slice sa L.length sc], .int .i64 q] w (ChF V' M' E w) := by
  subst hV' hM' hE
  exact (confirmed_any va vc V sa sc L q w h.2 h.1 h9 h8 _ rfl).mono fun e w' q => chf_of q
theorem reported_f {V V' : List Int} {L M' : List Od} (v t : Int) {E : Int} (hE : rnE V L v t = E) (hV' : rV E (rpM L v t) = V') (hM' : rM E (rpM L v t) = M') (va : Option Addr) (vc : Nat) (sa : Option Addr) (sc : Nat) (w : World) (h : Rb V L va vc sa sc w) (h9 : L.length ≤ 300) (h8 : V.length ≤ 300) :
    Calls Try.prog 15 #[.agg #[.slice va V.length vc, .slice sa L.length sc], .int .i64 v, .int .i64 t] w (ChF V' M' E w) := by
  subst hV' hM' hE
  exact (reported_any va vc V sa sc L v t w h.2 h.1 h9 h8 _ rfl).mono fun e w' q => chf_of q
open Go.RowKit

/-- A belief's two lists, which are new. -/
def RbF (N : Nat) (V : List Int) (M : List Od) (ua : Option Addr) (uc : Nat) (fa : Option Addr) (fc : Nat) (w : World) : Prop := Rb V M ua uc fa fc w ∧ (∀ g o, ua = some ⟨g, o, none⟩ → N ≤ g) ∧ ∀ g o, fa = some ⟨g, o, none⟩ → N ≤ g
theorem RbF.step {N : Nat} {V : List Int} {M : List Od} {ua fa : Option Addr} {uc fc : Nat} {w w' : World} (h : RbF N V M ua uc fa fc w) (hb : Below w.heap.size w w') : RbF N V M ua uc fa fc w' := ⟨h.1.step hb, h.2⟩
theorem RbF.kept {N : Nat} {V : List Int} {M : List Od} {ua fa : Option Addr} {uc fc k : Nat} {w w' : World} (h : RbF N V M ua uc fa fc w) (hc : Chg k w w') (hs : Sl w k) : RbF N V M ua uc fa fc w' := ⟨h.1.kept hc hs, h.2⟩
theorem RbF.le {N N' : Nat} {V : List Int} {M : List Od} {ua fa : Option Addr} {uc fc : Nat} {w : World} (h : RbF N V M ua uc fa fc w) (hn : N' ≤ N) : RbF N' V M ua uc fa fc w :=
  ⟨h.1, fun g o e => Nat.le_trans hn (h.2.1 g o e), fun g o e => Nat.le_trans hn (h.2.2 g o e)⟩
/-- The values of a region that calls: the call's two results, the belief, its new box. -/
def QtF (N : Nat) (V : List Int) (M : List Od) (E : Int) (b : Bool) (v : Value) (w : World) : Prop :=
  ∃ (ua : Option Addr) (uc : Nat) (fa : Option Addr) (fc : Nat), v = .tuple #[.agg #[.slice ua V.length uc, .slice fa M.length fc], .int .i64 E] ∧ (b = false → RbF N V M ua uc fa fc w)
theorem QtF.step {N : Nat} {V : List Int} {M : List Od} {E : Int} {b : Bool} {v : Value} {w w' : World} (h : QtF N V M E b v w) (hb : Below w.heap.size w w') : QtF N V M E b v w' := by
  obtain ⟨ua, uc, fa, fc, e, h⟩ := h
  exact ⟨ua, uc, fa, fc, e, fun q => (h q).step hb⟩
theorem QtF.put {N : Nat} {V : List Int} {M : List Od} {E : Int} {b : Bool} {v : Value} {w : World} (h : QtF N V M E b v w) (w' : World) : QtF N V M E true v w' := by
  obtain ⟨ua, uc, fa, fc, e, h⟩ := h
  exact ⟨ua, uc, fa, fc, e, fun q => by cases q⟩
def QaF (N : Nat) (V : List Int) (M : List Od) (b : Bool) (v : Value) (w : World) : Prop :=
  ∃ (ua : Option Addr) (uc : Nat) (fa : Option Addr) (fc : Nat), v = .agg #[.slice ua V.length uc, .slice fa M.length fc] ∧ (b = false → RbF N V M ua uc fa fc w)
theorem QaF.step {N : Nat} {V : List Int} {M : List Od} {b : Bool} {v : Value} {w w' : World} (h : QaF N V M b v w) (hb : Below w.heap.size w w') : QaF N V M b v w' := by
  obtain ⟨ua, uc, fa, fc, e, h⟩ := h
  exact ⟨ua, uc, fa, fc, e, fun q => (h q).step hb⟩
theorem QaF.put {N : Nat} {V : List Int} {M : List Od} {b : Bool} {v : Value} {w : World} (h : QaF N V M b v w) (w' : World) : QaF N V M true v w' := by
  obtain ⟨ua, uc, fa, fc, e, h⟩ := h
  exact ⟨ua, uc, fa, fc, e, fun q => by cases q⟩
/-- A belief's box, its lists being new. -/
def BF (N : Nat) (V : List Int) (M : List Od) (k : Nat) (w : World) : Prop :=
  ∃ (ua : Option Addr) (uc : Nat) (fa : Option Addr) (fc : Nat), BoxN w k #[.slice ua V.length uc, .slice fa M.length fc] 25 ∧ RbF N V M ua uc fa fc w
theorem BF.step {N : Nat} {V : List Int} {M : List Od} {k : Nat} {w w' : World} (h : BF N V M k w) (hb : Below w.heap.size w w') : BF N V M k w' := by
  obtain ⟨ua, uc, fa, fc, h1, h2⟩ := h
  exact ⟨ua, uc, fa, fc, h1.step hb, h2.step hb⟩
theorem BF.of_put {N : Nat} {V : List Int} {M : List Od} {k : Nat} {ua fa : Option Addr} {uc fc : Nat} {w : World} (h : BoxN w k ZB 25) (hr : RbF N V M ua uc fa fc w) : BF N V M k (putB w k (.slice ua V.length uc) (.slice fa M.length fc)) :=
  ⟨ua, uc, fa, fc, putB_box h _ _, hr.kept (putB_chg _ _ _ _) (sl_of h)⟩
def QkF (N : Nat) (V : List Int) (M : List Od) (b : Bool) (v : Value) (w : World) : Prop :=
  ∃ k : Nat, v = .pointer (some ⟨k, 0, none⟩) ∧ N ≤ k ∧ (b = false → BoxN w k ZB 25) ∧ (b = true → BF N V M k w)
theorem QkF.step {N : Nat} {V : List Int} {M : List Od} {b : Bool} {v : Value} {w w' : World} (h : QkF N V M b v w) (hb : Below w.heap.size w w') : QkF N V M b v w' := by
  obtain ⟨k, e, hk, h1, h2⟩ := h
  exact ⟨k, e, hk, fun q => (h1 q).step hb, fun q => (h2 q).step hb⟩
theorem confirmed_g {V V' : List Int} {L M' : List Od} (q : Int) {E : Int} (hE : cnE V L q = E) (hV' : rV E (cfM q L) = V') (hM' : rM E (cfM q L) = M') (va : Option Addr) (vc : Nat) (sa : Option Addr) (sc : Nat) (w : World) (h : Rb V L va vc sa sc w) (h9 : L.length ≤ 300) (h8 : V.length ≤ 300) :
    Calls Try.prog 13 #[.agg #[.slice va V.length vc, .slice sa L.length sc], .int .i64 q] w fun e w' => ∃ (ua : Option Addr) (uc : Nat) (fa : Option Addr) (fc : Nat), e = .returned (.tuple #[.agg #[.slice ua V'.length uc, .slice fa M'.length fc], .int .i64 E]) ∧ Below w.heap.size w w' ∧ RbF w.heap.size V' M' ua uc fa fc w' :=
  (confirmed_f q hE hV' hM' va vc sa sc w h h9 h8).mono fun _ _ ⟨ua, uc, fa, fc, h1, h2, h3, h4⟩ => ⟨ua, uc, fa, fc, h1, h2, h3, h4⟩
open Go.RowKit

def zW : Wo := ⟨0, 0, 0⟩
def Wo.cells (x : Wo) : List Value := [.int .i64 x.v, .int .i64 (x.D : Int), .int .i64 x.c]
def wcs (l : List Wo) : List Value := l.flatMap Wo.cells
/-- A list of states behind a slice. -/
def WosAt (w : World) (v : Value) (l : List Wo) : Prop :=
  ∃ a cap, v = .slice a l.length cap ∧ l.length ≤ cap ∧ l.length ≤ maxLen ∧ (l ≠ [] → ∃ b off, a = some ⟨b, off, none⟩ ∧ ∀ (i : Nat) (x : Wo), l[i]? = some x →
    w.cell? ⟨b, off + i * 3, none⟩ = some (.int .i64 x.v) ∧ w.cell? ⟨b, off + i * 3 + 1, none⟩ = some (.int .i64 (x.D : Int)) ∧ w.cell? ⟨b, off + i * 3 + 2, none⟩ = some (.int .i64 x.c))
theorem WosAt.step {w w1 : World} {v : Value} {l : List Wo} (h : WosAt w v l) (hb : Below w.heap.size w w1) : WosAt w1 v l := by
  obtain ⟨a, cap, hv, h1, hm, hc⟩ := h
  refine ⟨a, cap, hv, h1, hm, fun hl => ?_⟩
  obtain ⟨b, off, ha, hx⟩ := hc hl
  refine ⟨b, off, ha, fun i x h => ?_⟩
  obtain ⟨q0, q1, q2⟩ := hx i x h
  exact ⟨keep1 hb q0, keep1 hb q1, keep1 hb q2⟩
theorem wos_nil (w : World) : WosAt w (.slice none 0 0) [] := ⟨none, 0, rfl, by simp, by simp, fun h => absurd rfl h⟩
theorem wo_get {l : List Wo} {k : Nat} (h : k < l.length) : l[k]? = some (l.getD k zW) := by simp [h]
theorem wo_mem {l : List Wo} {k : Nat} (h : k < l.length) : l.getD k zW ∈ l := List.mem_of_getElem? (wo_get h)
theorem wo_at {l : List Wo} {x : Wo} (h : x ∈ l) : ∃ k, k < l.length ∧ l.getD k zW = x := by
  obtain ⟨k, hk, e⟩ := List.getElem_of_mem h
  exact ⟨k, hk, by simp [hk, e]⟩
theorem wcs_app (l m : List Wo) : wcs (l ++ m) = wcs l ++ wcs m := by simp [wcs]
theorem wcs_one (x : Wo) : wcs [x] = x.cells := by simp [wcs]
theorem wcs_len (l : List Wo) : (wcs l).length = l.length * 3 := by
  induction l with
  | nil => rfl
  | cons y l ih =>
    have hs : wcs (y :: l) = y.cells ++ wcs l := by simp [wcs]
    rw [hs, List.length_append, ih, List.length_cons]
    simp [Wo.cells]; omega
theorem wcs_get (l : List Wo) : ∀ (i : Nat) (x : Wo), l[i]? = some x → ∀ j, j < 3 → (wcs l)[i * 3 + j]? = x.cells[j]? := by
  induction l with
  | nil => intro i x h; simp at h
  | cons y l ih =>
    intro i x h j hj
    have hs : wcs (y :: l) = y.cells ++ wcs l := by simp [wcs]
    rw [hs]
    cases i with
    | zero =>
      simp at h; subst h
      rw [List.getElem?_append_left (by simp [Wo.cells]; omega)]
      simp
    | succ i =>
      rw [List.getElem?_append_right (by simp [Wo.cells]; omega)]
      have := ih i x (by simpa using h) j hj
      rw [← this]
      congr 1
      simp [Wo.cells]; omega
theorem wcs_one' (l : List Wo) : ∀ u ∈ wcs l, u.oneCell' = true := by
  intro u hu
  unfold wcs at hu
  obtain ⟨x, -, hx⟩ := List.mem_flatMap.1 hu
  simp [Wo.cells] at hx
  rcases hx with rfl | rfl | rfl <;> rfl
theorem wos_of_row {w : World} {base n : Nat} {v : Value} {l : List Wo} (hn : n = l.length) (h : w.ownsRow base 44 3 v n (wcs l)) : WosAt w v l := by
  subst hn
  have hc := fun g (hg : v.ownBlock = some g) => h.cells hg
  rcases h.2 with ⟨rfl, h0⟩ | ⟨g, cap, cur, rfl, h1, h2, h3, h4, -⟩
  · have : l = [] := List.length_eq_zero_iff.1 h0
    subst this
    exact wos_nil _
  · refine ⟨some ⟨g, 0, none⟩, cap, rfl, h3, by omega, fun _ => ⟨g, 0, rfl, fun i x hi => ?_⟩⟩
    have hj := fun j (hj : j < 3) u (hu : x.cells[j]? = some u) => hc g rfl (i * 3 + j) u ((wcs_get l i x hi j hj).trans hu)
    simp only [Go.WideShapes.add_plain] at hj
    exact ⟨hj 0 (by omega) _ rfl, hj 1 (by omega) _ rfl, hj 2 (by omega) _ rfl⟩
theorem wo_cells {w : World} {a : Option Addr} {n cap : Nat} {l : List Wo} (h : WosAt w (.slice a n cap) l) (ad : Addr) (ha : a = some ad) : ∀ j u, (wcs l)[j]? = some u → w.cell? (ad.add j) = some u := by
  intro j u hu
  obtain ⟨a', cap', he, -, -, hc⟩ := h
  obtain ⟨rfl, -, rfl⟩ : a = a' ∧ n = l.length ∧ cap = cap' := by simpa using he
  have hj : j < (wcs l).length := (List.getElem?_eq_some_iff.1 hu).1
  rw [wcs_len] at hj
  have hi : j / 3 < l.length := by omega
  obtain ⟨b', off', ha', hx⟩ := hc (by intro e; rw [e] at hi; simp at hi)
  rw [ha] at ha'
  obtain rfl : ad = ⟨b', off', none⟩ := by simpa using ha'
  rw [Go.WideShapes.add_plain]
  have hg := wcs_get l (j / 3) _ (wo_get hi) (j % 3) (by omega)
  rw [show j / 3 * 3 + j % 3 = j by omega, hu] at hg
  obtain ⟨q0, q1, q2⟩ := hx (j / 3) _ (wo_get hi)
  have e : off' + j = off' + j / 3 * 3 + j % 3 := by omega
  rw [e]
  have h4 : j % 3 < 3 := by omega
  generalize j % 3 = m at *
  match m, h4 with
  | 0, _ => simp [Wo.cells] at hg; rw [hg]; exact q0
  | 1, _ => simp [Wo.cells] at hg; rw [hg]; exact q1
  | 2, _ => simp [Wo.cells] at hg; rw [hg]; exact q2
theorem wo_info : (Try.prog.info? 44).map (fun i => (i.zero, i.size, i.bytes)) = some (some (.agg #[.int .i64 0, .int .i64 0, .int .i64 0]), 3, 24) := by kernel_rfl
theorem cell_three_new (W : World) (a b c : Value) (T : TypeId) (n : Nat) (hn : n = W.heap.size) : ∀ j u, [a, b, c][j]? = some u → (W.alloc (.cells #[a, b, c] T)).cell? ((⟨n, 0, none⟩ : Addr).add j) = some u := by
  subst hn
  intro j u hu
  rw [Go.WideShapes.add_plain, World.cell?_alloc_new]
  simpa using hu
/-- The cells of one of the states. -/
theorem wos_at {w : World} {a : Option Addr} {n c : Nat} {l : List Wo} (h : WosAt w (.slice a n c) l) {k : Nat} (hk : k < l.length) : ∃ b o, a = some ⟨b, o, none⟩ ∧ w.cell? ⟨b, o + k * 3, none⟩ = some (.int .i64 (l.getD k zW).v) ∧ w.cell? ⟨b, o + k * 3 + 1, none⟩ = some (.int .i64 ((l.getD k zW).D : Int)) ∧ w.cell? ⟨b, o + k * 3 + 2, none⟩ = some (.int .i64 (l.getD k zW).c) := by
  obtain ⟨a1, c1, hv1, -, -, hcs1⟩ := h
  obtain ⟨rfl, -⟩ : a = a1 ∧ n = l.length ∧ c = c1 := by simpa using hv1
  obtain ⟨b1, o1, rfl, hx1⟩ := hcs1 (by intro e; rw [e] at hk; simp at hk)
  obtain ⟨y0, y1, y2⟩ := hx1 k _ (wo_get hk)
  exact ⟨b1, o1, rfl, y0, y1, y2⟩
theorem wo_ne {x y : Wo} (h : x ≠ y) : x.v ≠ y.v ∨ (x.v = y.v ∧ x.D ≠ y.D) ∨ (x.v = y.v ∧ x.D = y.D ∧ x.c ≠ y.c) := by
  by_cases h1 : x.v = y.v
  · by_cases h2 : x.D = y.D
    · refine .inr (.inr ⟨h1, h2, fun h3 => h ?_⟩)
      cases x; cases y; simp at *; exact ⟨h1, h2, h3⟩
    · exact .inr (.inl ⟨h1, h2⟩)
  · exact .inl h1
set_option maxRecDepth 100000 in
set_option maxHeartbeats 8000000 in
theorem has_any (v : Value) (l : List Wo) (x : Wo) (w : World) (h : WosAt w v l) :
    Calls Try.prog 51 #[v, .agg #[.int .i64 x.v, .int .i64 (x.D : Int), .int .i64 x.c]] w fun e w' => e = .returned (.bool (decide (x ∈ l))) ∧ Below w.heap.size w w' := by
  have HB0 := Lib.hid (al w (.cells #[.int .i64 x.v, .int .i64 (x.D : Int), .int .i64 x.c] 44))
  have HX0 := Lib.hid (Cs.new w w.heap.size #[.int .i64 x.v, .int .i64 (x.D : Int), .int .i64 x.c] 44 rfl)
  have HL := Lib.hid h
  have hm : l.length ≤ 9223372036854775807 := by obtain ⟨_, _, -, -, hm, -⟩ := h; unfold maxLen at hm; omega
  obtain ⟨sa, sc, rfl, -⟩ : ∃ a c, v = .slice a l.length c ∧ True := by obtain ⟨a, c, e, -⟩ := h; exact ⟨a, c, e, trivial⟩
  clear h
  obtain ⟨xv, hxv⟩ : ∃ z, x.v = z := ⟨_, rfl⟩
  obtain ⟨xD, hxD⟩ : ∃ z, (x.D : Int) = z := ⟨_, rfl⟩
  obtain ⟨xc, hxc⟩ : ∃ z, x.c = z := ⟨_, rfl⟩
  have HXE := Lib.hid (And.intro hxv (And.intro hxD hxc))
  rw [hxv, hxD, hxc] at HB0 HX0 ⊢
  clear hxv hxD hxc
  go_enter Try.func51, Try.ntmps51
  go_wp2_with fail
  go_loopw [5] (fun iv wr => ∃ k : Nat, k ≤ l.length ∧ iv = .int .i64 k ∧ Hid (∀ j, j < k → l.getD j zW ≠ x) ∧ Hid (Cs wr w.heap.size #[.int .i64 xv, .int .i64 xD, .int .i64 xc]) ∧ Hid (Below w.heap.size w wr)) (fun iv _ => l.length - (intOf iv).toNat)
  case atStart => exact ⟨0, by omega, rfl, Lib.hid (fun j hj => absurd hj (by omega)), HX0, HB0⟩
  case round =>
    obtain ⟨k, hk, rfl, HN, HX, HW⟩ := hrel
    by_cases hlt : k < l.length
    · obtain ⟨b1, o1, rfl, y0, y1, y2⟩ := wos_at (HL.out.step HW.out) hlt
      have yz := World.block_lt_of_cell? _ _ y0
      have t1 : (k : Int) < (l.length : Int) := by omega
      have c0 := HX.out.c 0 rfl
      have c1 := HX.out.c 1 rfl
      have c2 := HX.out.c 2 rfl
      have cz := HX.out.2.2
      have HMM := Lib.hid (wo_mem hlt)
      by_cases he : l.getD k zW = x
      · have HIN := Lib.hid (show decide (x ∈ l) = true from decide_eq_true (by rw [← he]; exact HMM.out))
        rw [he, HXE.out.1] at y0
        rw [he, HXE.out.2.1] at y1
        rw [he, HXE.out.2.2] at y2
        clear he
        go_upto_region 4 with fail
        go_quiet (fail)
        obtain ⟨W8, hW8⟩ : ∃ z, wr.drewN nq = z := ⟨_, rfl⟩
        have b8 : Below wr.heap.size wr W8 := by rw [← hW8]; exact below_drewN' _ _ _
        rw [hW8]
        have HW8 := Lib.hid (keep2 b8 HW.out)
        clear hW8 b8 y0 y1 y2 yz c0 c1 c2 cz HX HW
        go_wp2
        go_ret
        exact ⟨by rw [HIN.out]; rfl, HW8.out⟩
      · have HN2 := Lib.hid (show ∀ j, j < k + 1 → l.getD j zW ≠ x from fun j hj => by
          by_cases e : j = k
          · rw [e]; exact he
          · exact HN.out j (by omega))
        have hne := wo_ne he
        rw [HXE.out.1, HXE.out.2.2] at hne
        generalize l.getD k zW = u at *
        have hne2 : u.v ≠ xv ∨ (u.v = xv ∧ (u.D : Int) ≠ xD) ∨ (u.v = xv ∧ (u.D : Int) = xD ∧ u.c ≠ xc) := by
          have := HXE.out.2.1
          omega
        obtain ⟨uv, huv⟩ : ∃ z, u.v = z := ⟨_, rfl⟩
        obtain ⟨uD, huD⟩ : ∃ z, (u.D : Int) = z := ⟨_, rfl⟩
        obtain ⟨uc, huc⟩ : ∃ z, u.c = z := ⟨_, rfl⟩
        rw [huv] at y0 hne2
        rw [huD] at y1 hne2
        rw [huc] at y2 hne2
        clear huv huD huc hne he HN HMM
        go_upto_region 4 with fail
        rcases hne2 with q | ⟨rfl, q⟩ | ⟨rfl, rfl, q⟩
        all_goals (have q2 := beq_eq_false_iff_ne.2 q)
        all_goals (go_quiet (fail))
        all_goals (obtain ⟨W8, hW8⟩ : ∃ z, wr.drewN nq = z := ⟨_, rfl⟩)
        all_goals (have b8 : Below wr.heap.size wr W8 := by rw [← hW8]; exact below_drewN' _ _ _)
        all_goals (rw [hW8])
        all_goals (have HW8 := Lib.hid (keep2 b8 HW.out))
        all_goals (have HX8 := Lib.hid (HX.out.step b8))
        all_goals (clear hW8 b8 y0 y1 y2 yz c0 c1 c2 cz HX HW)
        all_goals (go_wp2)
        all_goals (go_roundw)
        case rel => exact ⟨k + 1, hlt, by go_num, HN2, HX8, HW8⟩
        case measure => simp [intOf]; omega
        case rel => exact ⟨k + 1, hlt, by go_num, HN2, HX8, HW8⟩
        case measure => simp [intOf]; omega
        case rel => exact ⟨k + 1, hlt, by go_num, HN2, HX8, HW8⟩
        case measure => simp [intOf]; omega
    · obtain rfl : k = l.length := by omega
      have HIN := Lib.hid (show decide (x ∈ l) = false from decide_eq_false fun q => by
        obtain ⟨j, hj, e⟩ := wo_at q
        exact HN.out j hj e)
      go_wp2
      go_ret
      exact ⟨by rw [HIN.out]; rfl, HW.out⟩
def wvu (l : List Wo) (n : Nat) : List Int := ((List.range n).map fun n : Nat => (n : Int)).filter fun v => l.any fun x => decide (x.v = v)
theorem wvu_step (l : List Wo) (n : Nat) : wvu l (n + 1) = wvu l n ++ (if (l.any fun o => decide (o.v = (n : Int))) = true then [(n : Int)] else []) := by
  unfold wvu
  rw [List.range_succ, List.map_append, List.filter_append]
  congr 1
  simp only [List.map_cons, List.map_nil, List.filter_cons, List.filter_nil]
theorem wvu_len (l : List Wo) (n : Nat) : (wvu l n).length ≤ n := by
  unfold wvu
  exact Nat.le_trans (List.length_filter_le _ _) (by simp)
theorem wany_step {l : List Wo} {p : Wo → Bool} {k : Nat} (h : k < l.length) : (l.take (k + 1)).any p = ((l.take k).any p || p (l.getD k zW)) := by
  have e : l.take (k + 1) = l.take k ++ [l.getD k zW] := by rw [List.take_add_one, wo_get h]; rfl
  rw [e, List.any_append]; simp
set_option maxRecDepth 100000 in
set_option maxHeartbeats 8000000 in
theorem valuesW_any (v : Value) (L : List Wo) (w : World) (h : WosAt w v L) (h9 : L.length ≤ maxLen) :
    Calls Try.prog 34 #[v] w fun e w' => ∃ u, e = .returned u ∧ IntsAt w' u (wvl L) ∧ Below w.heap.size w w' := by
  have HL := Lib.hid h
  obtain ⟨sa, sc, rfl, -, -, -⟩ := h
  have hm := h9
  unfold maxLen at hm
  clear h9
  obtain ⟨i0, hi, hz0, hz1, hz2⟩ := info_parts in_info
  go_enter Try.func34, Try.ntmps34
  go_wp2_with fail
  go_loopw [3, 4] (fun uv iv wr => ∃ n : Nat, n ≤ 16 ∧ iv = .int .i64 n ∧ Hid (wr.ownsRow w.heap.size 3 1 uv (wvu L n).length ((wvu L n).map (Value.int .i64))) ∧ Hid (Below w.heap.size w wr)) (fun _ iv _ => 16 - (intOf iv).toNat)
  case atStart => exact ⟨0, by omega, rfl, Lib.hid (World.ownsRow_nil w w.heap.size 3 1), Lib.hid (Below.refl _ _)⟩
  case round =>
    obtain ⟨n, hn, rfl, HR, HB⟩ := hrel
    by_cases hlt : n < 16
    · have t1 : (n : Int) < 16 := by omega
      have hsz := HB.out.size
      obtain ⟨W2, hW2⟩ : ∃ z, z = wr := ⟨_, rfl⟩
      subst hW2
      have HST := Lib.hid (wvu_step L n)
      have HNL := Lib.hid (wvu_len L n)
      have HNN := Lib.hid hlt
      generalize wvu L n = R at *
      go_wp2_with fail
      go_loopw [5, 6] (fun bv iv wr => ∃ (k : Nat) (b : Bool), k ≤ L.length ∧ iv = .int .i64 k ∧ bv = .bool b ∧ Hid ((L.take k).any (fun o => decide (o.v = (n : Int))) = b) ∧ Hid (Below W2.heap.size W2 wr)) (fun _ iv _ => L.length - (intOf iv).toNat)
      case atStart => exact ⟨0, false, by omega, rfl, rfl, Lib.hid (by simp), Lib.hid (Below.refl _ _)⟩
      case round =>
        obtain ⟨k, b, hk, rfl, rfl, HA, HW⟩ := hrel
        by_cases hlk : k < L.length
        · obtain ⟨a1, cc1, hv1, -, -, hcs1⟩ := (HL.out.step HB.out).step HW.out
          obtain ⟨rfl, rfl⟩ : sa = a1 ∧ sc = cc1 := by simpa using hv1
          obtain ⟨b1, o1, rfl, hx1⟩ := hcs1 (by intro e; rw [e] at hlk; simp at hlk)
          obtain ⟨y0, y1, y2⟩ := hx1 k _ (wo_get hlk)
          have yz : b1 < wr.heap.size := World.block_lt_of_cell? _ _ y0
          have t2 : (k : Int) < (L.length : Int) := by omega
          have HS := Lib.hid (wany_step (p := fun o => decide (o.v = (n : Int))) hlk)
          clear hcs1 hx1 hv1 y1 y2
          generalize L.getD k zW = x at *
          cases b
          · by_cases hq : x.v = (n : Int)
            · have HA2 := Lib.hid (show (L.take (k + 1)).any (fun o => decide (o.v = (n : Int))) = true by rw [HS.out, HA.out, decide_eq_true hq]; rfl)
              rw [hq] at y0
              clear hq HA HS
              go_wp2
              go_roundw
              case rel => exact ⟨k + 1, true, hlk, by go_num, rfl, HA2, HW⟩
              case measure => simp [intOf]; omega
            · have HA2 := Lib.hid (show (L.take (k + 1)).any (fun o => decide (o.v = (n : Int))) = false by rw [HS.out, HA.out, decide_eq_false hq]; rfl)
              obtain ⟨xd, hxd⟩ : ∃ z, x.v = z := ⟨_, rfl⟩
              rw [hxd] at y0 hq
              have e1 : decide (xd = (n : Int)) = false := decide_eq_false hq
              have e2 : (xd == (n : Int)) = false := beq_eq_false_iff_ne.2 hq
              clear hxd HA HS
              go_wp2
              go_roundw
              case rel => exact ⟨k + 1, false, hlk, by go_num, rfl, HA2, HW⟩
              case measure => simp [intOf]; omega
          · have HA2 := Lib.hid (show (L.take (k + 1)).any (fun o => decide (o.v = (n : Int))) = true by rw [HS.out, HA.out]; rfl)
            clear HA HS
            go_wp2
            go_roundw
            case rel => exact ⟨k + 1, true, hlk, by go_num, rfl, HA2, HW⟩
            case measure => simp [intOf]; omega
        · obtain rfl : k = L.length := by omega
          have HAA := Lib.hid (show L.any (fun o => decide (o.v = (n : Int))) = b by rw [← HA.out, List.take_length])
          have HR2 := Lib.hid (row_step HR.out HW.out)
          have HB2 := Lib.hid (keep2 HW.out HB.out)
          clear HA HR
          cases b
          · have HST2 := Lib.hid (show wvu L (n + 1) = R by rw [HST.out, HAA.out]; simp)
            go_wp2
            go_roundw
            case rel => exact ⟨n + 1, HNN.out, by go_num, by rw [HST2.out]; exact HR2, HB2⟩
            case measure => have := HNN.out; simp [intOf]; omega
          · have HST2 := Lib.hid (show wvu L (n + 1) = R ++ [(n : Int)] by rw [HST.out, HAA.out]; simp)
            have hRl : R.length ≤ 100 := by have := HNL.out; have := HNN.out; omega
            have hs2 := HB2.out.size
            go_wp2_with (at_builtin; refine wpList_append_own _ rfl _ _ 22 rfl w.heap.size 3 i0 _ 1 8 Try.underlying22 hi hz0 hz1 hz2 rfl (by decide) _ _ _ rfl (HR2.out.alloc _) ⟨wr.heap.size, 0, none⟩ 1 1 [.int .i64 (n : Int)] rfl rfl (cell_one_new _ _ _ _ (by simp)) (by simp [Value.oneCell']) (by unfold maxLen; omega) (by omega) (by simp; omega) ?_; intro v' w1 hown hgrow _; have HR3 := Lib.hid hown; have HB3 := Lib.hid (below_own (Nat.le_refl _) HB2.out HR2.out hgrow); clear hown hgrow)
            go_roundw
            case rel => exact ⟨n + 1, HNN.out, by go_num, by rw [HST2.out, List.map_append, List.length_append]; exact HR3, HB3⟩
            case measure => have := HNN.out; simp [intOf]; omega
    · obtain rfl : n = 16 := by omega
      have HR2 := Lib.hid (ints_of_row HR.out)
      clear HR
      go_wp2
      go_ret
      exact ⟨_, rfl, HR2.out, HB.out⟩
open Go.RowKit

theorem wflt_step (p : Wo → Bool) {l : List Wo} {k : Nat} (h : k < l.length) : (l.take (k + 1)).filter p = (l.take k).filter p ++ (if p (l.getD k zW) = true then [l.getD k zW] else []) := by
  have e : l.take (k + 1) = l.take k ++ [l.getD k zW] := by rw [List.take_add_one, wo_get h]; rfl
  rw [e, List.filter_append]
  congr 1
  simp only [List.filter_cons, List.filter_nil]
theorem wflt_len (p : Wo → Bool) (l : List Wo) (k : Nat) : ((l.take k).filter p).length ≤ k := Nat.le_trans (List.length_filter_le _ _) (by simp; omega)
set_option maxRecDepth 100000 in
set_option maxHeartbeats 8000000 in
theorem confirmed_w (v : Value) (l : List Wo) (j : Nat) (w : World) (h : WosAt w v l) (h9 : l.length ≤ 1000) (hD : ∀ x ∈ l, x.D ≤ 2000000) (hj : j ≤ 40) :
    Calls Try.prog 30 #[v, .int .i64 (j : Int)] w fun e w' => ∃ u, e = .returned u ∧ w'.ownsRow w.heap.size 44 3 u (l.filter fun x : Wo => x.D.testBit j).length (wcs (l.filter fun x : Wo => x.D.testBit j)) ∧ Below w.heap.size w w' := by
  have HL := Lib.hid h
  have HDD := Lib.hid hD
  have HJ := Lib.hid hj
  obtain ⟨sa, sc, rfl, -⟩ : ∃ a c, v = .slice a l.length c ∧ True := by obtain ⟨a, c, e, -⟩ := h; exact ⟨a, c, e, trivial⟩
  clear h hD hj
  obtain ⟨i0, hi, hz0, hz1, hz2⟩ := info_parts wo_info
  obtain ⟨p, hp⟩ : ∃ p : Wo → Bool, p = fun x : Wo => x.D.testBit j := ⟨_, rfl⟩
  have HP := Lib.hid (show ∀ x : Wo, x.D.testBit j = p x from fun x => by rw [hp])
  rw [← hp]
  clear hp
  go_enter Try.func30, Try.ntmps30
  go_wp2_with fail
  go_loopw [5, 6] (fun ov iv wr => ∃ k : Nat, k ≤ l.length ∧ iv = .int .i64 k ∧ Hid (wr.ownsRow w.heap.size 44 3 ov ((l.take k).filter p).length (wcs ((l.take k).filter p))) ∧ Hid (Below w.heap.size w wr)) (fun _ iv _ => l.length - (intOf iv).toNat)
  case atStart => exact ⟨0, by omega, rfl, Lib.hid (World.ownsRow_nil w w.heap.size 44 3), Lib.hid (Below.refl _ _)⟩
  case round =>
    obtain ⟨k, hk, rfl, HR, HB⟩ := hrel
    have hsz := HB.out.size
    by_cases hlt : k < l.length
    · obtain ⟨b1, o1, rfl, y0, y1, y2⟩ := wos_at (HL.out.step HB.out) hlt
      have yz := World.block_lt_of_cell? _ _ y0
      have t1 : (k : Int) < (l.length : Int) := by omega
      have HT := Lib.hid (wflt_step p hlt)
      have HY := Lib.hid (wflt_len p l k)
      have HX := Lib.hid (HDD.out _ (wo_mem hlt))
      have HE := Lib.hid (And.intro y0 (And.intro y1 y2))
      generalize l.getD k zW = x at *
      have HPX := Lib.hid (HP.out x)
      go_wp2_with fail
      refine (done_any _ _ x.D j HX.out HJ.out _).mono ?_
      rintro e w2 ⟨rfl, b2⟩
      rw [HPX.out]
      have HB2 := Lib.hid (keep2 b2 HB.out)
      have HR2 := Lib.hid (row_step HR.out b2)
      have z0 := keep1 b2 HE.out.1
      have z1 := keep1 b2 HE.out.2.1
      have z2 := keep1 b2 HE.out.2.2
      have zz := World.block_lt_of_cell? _ _ z0
      clear b2 y0 y1 y2 yz HR HE HPX
      have hsz2 := HB2.out.size
      generalize l.take k = lk at *
      cases he : p x with
      | false =>
        rw [he] at HT
        clear he
        go_wp2
        go_roundw
        case rel => exact ⟨k + 1, by omega, by go_num, by rw [HT.out]; simpa using HR2, HB2⟩
        case measure => simp [intOf]; omega
      | true =>
        rw [he] at HT
        clear he
        have HY2 := HY.out
        go_wp2_with (at_builtin; refine wpList_append_own _ rfl _ _ 52 rfl w.heap.size 44 i0 _ 3 24 Try.underlying52 hi hz0 hz1 hz2 rfl (by decide) _ _ _ rfl (HR2.out.alloc _) ⟨w2.heap.size, 0, none⟩ 1 1 [.int .i64 x.v, .int .i64 (x.D : Int), .int .i64 x.c] rfl rfl (cell_three_new _ _ _ _ _ _ (by simp)) (by simp [Value.oneCell']) (by unfold maxLen; omega) (by omega) (by simp; omega) ?_; intro v' w1 hown hgrow _; have HR3 := Lib.hid hown; have HB3 := Lib.hid (below_own (Nat.le_refl _) HB2.out HR2.out hgrow); clear hown hgrow)
        go_roundw
        case rel => exact ⟨k + 1, by omega, by go_num, by rw [HT.out]; simp only [if_true, List.length_append, wcs_app, wcs_one]; exact HR3, HB3⟩
        case measure => simp [intOf]; omega
    · obtain rfl : k = l.length := by omega
      have HQ := Lib.hid (show wr.ownsRow w.heap.size 44 3 _ (l.filter p).length (wcs (l.filter p)) by have h := HR.out; rw [List.take_length] at h; exact h)
      go_wp2
      go_ret
      exact ⟨_, rfl, HQ.out, HB.out⟩
theorem row_nb {k base e s n c m : Nat} {a : Option Addr} {xs : List Value} {w w' : World} (h : w.ownsRow base e s (.slice a n c) m xs) (hc : Chg k w w') (hk : ∀ g o, a = some ⟨g, o, none⟩ → g ≠ k) : w'.ownsRow base e s (.slice a n c) m xs := by
  refine h.kept (chg_grown hc) ?_
  cases a with
  | none => exact .inl rfl
  | some ad =>
    refine .inr ?_
    rcases h.2 with ⟨e, -⟩ | ⟨g, cap, cur, e, h1, -⟩
    · cases e
    · cases e
      intro q
      have : g = k := by simpa [Value.ownBlock] using q
      exact hk g 0 rfl this
/-- The states with a value and a greatest number, the window closed. -/
def rpw (L : List Od) (a t : Int) (l : List Wo) : List Wo := (l.filter fun x : Wo => decide (x.v = a) && decide (tpf x.D L x.c L.length = t)).map fun x : Wo => ⟨x.v, x.D, t⟩
theorem rpw_step (L : List Od) (a t : Int) {l : List Wo} {k : Nat} (h : k < l.length) : rpw L a t (l.take (k + 1)) = rpw L a t (l.take k) ++ (if (decide ((l.getD k zW).v = a) && decide (tpf (l.getD k zW).D L (l.getD k zW).c L.length = t)) = true then [(⟨(l.getD k zW).v, (l.getD k zW).D, t⟩ : Wo)] else []) := by
  unfold rpw
  rw [wflt_step _ h, List.map_append]
  congr 1
  by_cases q : (decide ((l.getD k zW).v = a) && decide (tpf (l.getD k zW).D L (l.getD k zW).c L.length = t)) = true
  · rw [if_pos q, if_pos q]; rfl
  · rw [if_neg q, if_neg q]; rfl
theorem rpw_len (L : List Od) (a t : Int) (l : List Wo) (k : Nat) : (rpw L a t (l.take k)).length ≤ k := by
  unfold rpw; rw [List.length_map]; exact wflt_len _ l k
set_option maxRecDepth 100000 in
set_option maxHeartbeats 8000000 in
theorem reported_w (s v : Value) (L : List Od) (l : List Wo) (a t : Int) (w : World) (hs : OdsAt w s L) (h : WosAt w v l) (hl : L.length ≤ 20) (h9 : l.length ≤ 1000) (hD : ∀ x ∈ l, x.D ≤ 2000000) :
    Calls Try.prog 31 #[s, v, .int .i64 a, .int .i64 t] w fun e w' => ∃ u, e = .returned u ∧ w'.ownsRow w.heap.size 44 3 u (rpw L a t l).length (wcs (rpw L a t l)) ∧ Below w.heap.size w w' := by
  have HL := Lib.hid h
  have HS := Lib.hid hs
  have HDD := Lib.hid hD
  have HLL := Lib.hid hl
  obtain ⟨sa, sc, rfl, -⟩ : ∃ a c, v = .slice a l.length c ∧ True := by obtain ⟨a, c, e, -⟩ := h; exact ⟨a, c, e, trivial⟩
  clear h hD hs hl
  obtain ⟨i0, hi, hz0, hz1, hz2⟩ := info_parts wo_info
  go_enter Try.func31, Try.ntmps31
  go_wp2_with fail
  go_loopw [9, 10] (fun ov iv wr => ∃ k : Nat, k ≤ l.length ∧ iv = .int .i64 k ∧ Hid (wr.ownsRow w.heap.size 44 3 ov (rpw L a t (l.take k)).length (wcs (rpw L a t (l.take k)))) ∧ Hid (Below w.heap.size w wr)) (fun _ iv _ => l.length - (intOf iv).toNat)
  case atStart => exact ⟨0, by omega, rfl, Lib.hid (World.ownsRow_nil w w.heap.size 44 3), Lib.hid (Below.refl _ _)⟩
  case round =>
    obtain ⟨k, hk, rfl, HR, HB⟩ := hrel
    have hsz := HB.out.size
    by_cases hlt : k < l.length
    · obtain ⟨b1, o1, rfl, y0, y1, y2⟩ := wos_at (HL.out.step HB.out) hlt
      have yz := World.block_lt_of_cell? _ _ y0
      have t1 : (k : Int) < (l.length : Int) := by omega
      have HT := Lib.hid (rpw_step L a t hlt)
      have HY := Lib.hid (rpw_len L a t l k)
      have HX := Lib.hid (HDD.out _ (wo_mem hlt))
      generalize l.getD k zW = x at *
      generalize rpw L a t (l.take k) = rk at *
      obtain ⟨ra, rc, rfl⟩ := row_slice HR.out
      have HRL := Lib.hid (row_lt HR.out)
      obtain ⟨xv, xD, xc⟩ := x
      dsimp only at *
      have HC := Lib.hid (Cs.new wr wr.heap.size #[.int .i64 xv, .int .i64 (xD : Int), .int .i64 xc] 44 rfl)
      have HB1 := Lib.hid (HB.out.alloc hsz (.cells #[.int .i64 xv, .int .i64 (xD : Int), .int .i64 xc] 44))
      have HR1 := Lib.hid (HR.out.alloc (.cells #[.int .i64 xv, .int .i64 (xD : Int), .int .i64 xc] 44))
      have o0 := HC.out.c 0 rfl
      have o1 := HC.out.c 1 rfl
      have o2 := HC.out.c 2 rfl
      have oz := HC.out.2.2
      clear HR
      by_cases hv : xv = a
      · subst hv
        have q1 : decide (xv = xv) = true := decide_eq_true rfl
        rw [q1, Bool.true_and] at HT
        clear q1
        go_wp2_with fail
        refine (top_any s _ L xD xc HX.out HLL.out _ (HS.out.step HB1.out)).mono ?_
        rintro e w2 ⟨rfl, b2⟩
        have HB2 := Lib.hid (keep2 b2 HB1.out)
        have HR2 := Lib.hid (row_step HR1.out b2)
        have HC2 := Lib.hid (HC.out.step b2)
        clear b2 y0 y1 y2 yz o0 o1 o2 oz HB1 HR1 HC
        have hsz2 := HB2.out.size
        have o0 := HC2.out.c 0 rfl
        have o1 := HC2.out.c 1 rfl
        have o2 := HC2.out.c 2 rfl
        have oz := HC2.out.2.2
        have f2 := HC2.out.f 2 (by simp)
        generalize tpf xD L xc L.length = T at *
        by_cases hq : T = t
        · subst hq
          have HT2 := Lib.hid (show rpw L xv T (l.take (k + 1)) = rk ++ [(⟨xv, xD, T⟩ : Wo)] by rw [HT.out, if_pos (decide_eq_true rfl)])
          clear HT
          go_upto_region 8 with fail
          have hcs := Cs.set HC2.out 2 (by simp) (.int .i64 T) (vs' := #[.int .i64 xv, .int .i64 (xD : Int), .int .i64 T]) rfl
          have hrr := row_nb HR2.out ((Chg.of (k := wr.heap.size) (Below.refl _ w2)).set 2 (.int .i64 T)) (fun g o e q => by have := HRL.out g o e; omega)
          have hbb := HB2.out.setCell (p := ⟨wr.heap.size, 2, none⟩) hsz (.int .i64 T)
          obtain ⟨W6, hW6⟩ : ∃ z, w2.setCell ⟨wr.heap.size, 2, none⟩ (.int .i64 T) = z := ⟨_, rfl⟩
          rw [hW6] at hcs hrr hbb ⊢
          have HR3 := Lib.hid hrr
          have HB3 := Lib.hid hbb
          have HC3 := Lib.hid hcs
          clear hcs hrr hbb hW6 o0 o1 o2 oz f2 HB2 HR2 HC2 hsz2
          have o0 := HC3.out.c 0 rfl
          have o1 := HC3.out.c 1 rfl
          have o2 := HC3.out.c 2 rfl
          have oz := HC3.out.2.2
          have hsz3 := HB3.out.size
          have HY2 := HY.out
          go_wp2_with (at_builtin; refine wpList_append_own _ rfl _ _ 52 rfl w.heap.size 44 i0 _ 3 24 Try.underlying52 hi hz0 hz1 hz2 rfl (by decide) _ _ _ rfl (HR3.out.alloc _) ⟨W6.heap.size, 0, none⟩ 1 1 [.int .i64 xv, .int .i64 (xD : Int), .int .i64 T] rfl rfl (cell_three_new _ _ _ _ _ _ (by simp)) (by simp [Value.oneCell']) (by unfold maxLen; omega) (by omega) (by simp; omega) ?_; intro v' w1 hown hgrow _; have HR4 := Lib.hid hown; have HB4 := Lib.hid (below_own (Nat.le_refl _) HB3.out HR3.out hgrow); clear hown hgrow)
          go_roundw
          case rel => exact ⟨k + 1, by omega, by go_num, by rw [HT2.out]; simp only [List.length_append, wcs_app, wcs_one]; exact HR4, HB4⟩
          case measure => simp [intOf]; omega
        · have HT2 := Lib.hid (show rpw L xv t (l.take (k + 1)) = rk by rw [HT.out, if_neg (by simp [hq]), List.append_nil])
          have q3 : (T == t) = false := beq_eq_false_iff_ne.2 hq
          have q4 : decide (T = t) = false := decide_eq_false hq
          clear HT
          go_wp2
          go_roundw
          case rel => exact ⟨k + 1, by omega, by go_num, by rw [HT2.out]; exact HR2, HB2⟩
          case measure => simp [intOf]; omega
      · have q1 : decide (xv = a) = false := decide_eq_false hv
        have q2 : (xv == a) = false := beq_eq_false_iff_ne.2 hv
        rw [q1, Bool.false_and, if_neg (by decide), List.append_nil] at HT
        go_wp2
        go_roundw
        case rel => exact ⟨k + 1, by omega, by go_num, by rw [HT.out]; exact HR1, HB1⟩
        case measure => simp [intOf]; omega
    · obtain rfl : k = l.length := by omega
      have HQ := Lib.hid (show wr.ownsRow w.heap.size 44 3 _ (rpw L a t l).length (wcs (rpw L a t l)) by have h := HR.out; rw [List.take_length] at h; exact h)
      go_wp2
      go_ret
      exact ⟨_, rfl, HQ.out, HB.out⟩
open Go.RowKit

theorem nodup_len : ∀ (n : Nat) (l : List Nat), l.Nodup → (∀ x ∈ l, x < n) → l.length ≤ n
  | 0, l, _, h => by
    cases l with
    | nil => simp
    | cons x l => exact absurd (h x (by simp)) (by omega)
  | n + 1, l, hn, h => by
    by_cases hx : n ∈ l
    · have h1 := nodup_len n (l.erase n) (hn.erase n) fun x q => by
        have h2 := (hn.mem_erase_iff).1 q
        have := h x h2.2
        have := h2.1
        omega
      rw [List.length_erase_of_mem hx] at h1
      omega
    · have h1 := nodup_len n l hn fun x q => by
        have := h x q
        have : x ≠ n := fun e => hx (by rw [← e]; exact q)
        omega
      omega
theorem nodup_map {f : Wo → Nat} : ∀ {l : List Wo}, l.Nodup → (∀ x ∈ l, ∀ y ∈ l, f x = f y → x = y) → (l.map f).Nodup
  | [], _, _ => by simp
  | x :: l, hn, h => by
    rw [List.map_cons, List.nodup_cons]
    rw [List.nodup_cons] at hn
    refine ⟨fun q => ?_, nodup_map hn.2 fun a ha b hb => h a (by simp [ha]) b (by simp [hb])⟩
    obtain ⟨y, hy, e⟩ := List.mem_map.1 q
    have := h y (by simp [hy]) x (by simp) e
    exact hn.1 (by rw [← this]; exact hy)
/-- A list of different states is not long. -/
theorem wos_len {l : List Wo} {c : Int} (hn : l.Nodup) (hg : ∀ x ∈ l, 0 ≤ x.v ∧ x.v < 16 ∧ x.D < 16 ∧ x.c = c) : l.length ≤ 256 := by
  have h1 := nodup_len 256 (l.map fun x : Wo => x.v.toNat * 16 + x.D) (nodup_map hn fun x hx y hy e => by
    obtain ⟨a1, a2, a3, a4⟩ := hg x hx
    obtain ⟨b1, b2, b3, b4⟩ := hg y hy
    have e1 : x.v = y.v := by omega
    have e2 : x.D = y.D := by omega
    cases x; cases y; simp at *; exact ⟨e1, e2, by rw [a4, b4]⟩) fun x hx => by
    obtain ⟨y, hy, rfl⟩ := List.mem_map.1 hx
    obtain ⟨a1, a2, a3, a4⟩ := hg y hy
    omega
  simpa using h1
/-- What the list of states keeps while it grows. -/
structure WI (L : List Od) (all out : List Wo) (k i : Nat) : Prop where
  nd : out.Nodup
  sub : ∀ x ∈ all, x ∈ out
  rch : ∀ x ∈ out, ∃ y ∈ all, Rch L y x
  kl : k ≤ out.length
  don : ∀ j, j < k → ∀ i, i < L.length → exB L (out.getD j zW).D (out.getD j zW).c i = true → exW L (out.getD j zW) i ∈ out
  cur : ∀ j, j < i → k < out.length → j < L.length → exB L (out.getD k zW).D (out.getD k zW).c j = true → exW L (out.getD k zW) j ∈ out
theorem WI.start {L : List Od} {all : List Wo} (hn : all.Nodup) : WI L all all 0 0 :=
  ⟨hn, fun _ h => h, fun x h => ⟨x, h, .refl⟩, by omega, fun j h => absurd h (by omega), fun j h => absurd h (by omega)⟩
theorem WI.skip {L : List Od} {all out : List Wo} {k i : Nat} (h : WI L all out k i) (hi : exB L (out.getD k zW).D (out.getD k zW).c i = true → exW L (out.getD k zW) i ∈ out) : WI L all out k (i + 1) :=
  ⟨h.nd, h.sub, h.rch, h.kl, h.don, fun j hj hk hl he => by
    by_cases e : j = i
    · subst e; exact hi he
    · exact h.cur j (by omega) hk hl he⟩
theorem WI.next {L : List Od} {all out : List Wo} {k i : Nat} (h : WI L all out k i) (hi : L.length ≤ i) (hk : k < out.length) : WI L all out (k + 1) 0 :=
  ⟨h.nd, h.sub, h.rch, hk, fun j hj i' hi' he => by
    by_cases e : j = k
    · subst e; exact h.cur i' (by omega) hk hi' he
    · exact h.don j (by omega) i' hi' he, fun j hj => absurd hj (by omega)⟩
theorem app_getD {out : List Wo} {y : Wo} {j : Nat} (h : j < out.length) : (out ++ [y]).getD j zW = out.getD j zW := by
  rw [List.getD_eq_getElem?_getD, List.getD_eq_getElem?_getD, List.getElem?_append_left h]
theorem WI.app {L : List Od} {all out : List Wo} {k i : Nat} (h : WI L all out k i) (hk : k < out.length) (hi : i < L.length) (he : exB L (out.getD k zW).D (out.getD k zW).c i = true) (hn : exW L (out.getD k zW) i ∉ out) : WI L all (out ++ [exW L (out.getD k zW) i]) k (i + 1) := by
  refine ⟨?_, fun x hx => by simp [h.sub x hx], fun x hx => ?_, by rw [List.length_append]; have := h.kl; omega, fun j hj i' hi' he' => ?_, fun j hj _ hl he' => ?_⟩
  · rw [List.nodup_append]
    refine ⟨h.nd, by simp, fun a ha b hb e => ?_⟩
    have : b = exW L (out.getD k zW) i := by simpa using hb
    rw [this] at e
    exact hn (by rw [← e]; exact ha)
  · rcases List.mem_append.1 hx with q | q
    · exact h.rch x q
    · have : x = exW L (out.getD k zW) i := by simpa using q
      rw [this]
      obtain ⟨y, hy, hr⟩ := h.rch _ (wo_mem hk)
      exact ⟨y, hy, .step hr hi he⟩
  · rw [app_getD (by omega)] at he' ⊢
    exact List.mem_append.2 (.inl (h.don j hj i' hi' he'))
  · rw [app_getD hk] at he' ⊢
    by_cases e : j = i
    · subst e; simp
    · exact List.mem_append.2 (.inl (h.cur j (by omega) hk hl he'))
theorem WI.clo {L : List Od} {all out : List Wo} {k i : Nat} (h : WI L all out k i) (hk : out.length ≤ k) : Clo L out := fun x hx i hi he => by
  obtain ⟨j, hj, rfl⟩ := wo_at hx
  exact h.don j (by omega) i hi he
set_option maxRecDepth 100000 in
set_option maxHeartbeats 8000000 in
theorem worlds_any (s v : Value) (L : List Od) (all : List Wo) (c : Int) (w : World) (hs : OdsAt w s L) (h : WosAt w v all) (hl : L.length ≤ 20) (hne : all ≠ []) (hnd : all.Nodup) (hg : ∀ x y, y ∈ all → Rch L y x → 0 ≤ x.v ∧ x.v < 16 ∧ x.D < 16 ∧ x.c = c) (hb9 : ∀ x ∈ L, -1000 ≤ x.a ∧ x.a ≤ 1000000000) :
    Calls Try.prog 32 #[s, v] w fun e w' => ∃ u R, e = .returned u ∧ w'.ownsRow w.heap.size 44 3 u R.length (wcs R) ∧ R.Nodup ∧ (∀ x ∈ all, x ∈ R) ∧ Clo L R ∧ (∀ x ∈ R, ∃ y ∈ all, Rch L y x) ∧ Below w.heap.size w w' := by
  have HS := Lib.hid hs
  have HLL := Lib.hid hl
  have H9 := Lib.hid hb9
  have HG := Lib.hid hg
  have HST := Lib.hid (WI.start (L := L) hnd)
  have HAL := Lib.hid (wos_len hnd fun x hx => hg x x hx .refl)
  obtain ⟨a, cap, rfl, hcap, hm, hc⟩ := id h
  obtain ⟨b0, o0, rfl, -⟩ := hc hne
  obtain ⟨i0, hi, hz0, hz1, hz2⟩ := info_parts wo_info
  have HN := Lib.hid (wo_cells (h.step (al w (.cells #[] 44))) ⟨b0, o0, none⟩ rfl)
  have hal := HAL.out
  have c1 : 0 + all.length ≤ maxLen := by unfold maxLen; omega
  have c2 : (0 + all.length) * 24 ≤ 140737488355328 := by omega
  have HR := Lib.hid (show (w.alloc (.cells #[] 44)).ownsRow w.heap.size 44 3 (.slice (some ⟨w.heap.size, 0, none⟩) 0 0) 0 [] from
      ⟨rfl, .inr ⟨w.heap.size, 0, _, rfl, Nat.le_refl _, heap_alloc_new _ _, by omega, by unfold maxLen; omega, rfl, rfl⟩⟩)
  clear hc hm h hs hl hb9 hg hnd hne hcap hal
  obtain ⟨sa, sc, rfl, hsm⟩ : ∃ a c, s = .slice a L.length c ∧ True := by obtain ⟨a, c, e, -⟩ := HS.out; exact ⟨a, c, e, trivial⟩
  clear hsm
  go_enter Try.func32, Try.ntmps32
  go_wp2_with (at_builtin; refine wpList_append_own _ rfl _ _ 52 rfl w.heap.size 44 i0 _ 3 24 Try.underlying52 hi hz0 hz1 hz2 rfl (by decide) _ _ _ rfl HR.out ⟨b0, o0, none⟩ all.length cap (wcs all) rfl (wcs_len all) HN.out (wcs_one' all) c1 c2 (by simp) ?_; intro v' w1 hown hgrow _; have HO := Lib.hid hown; have HGR := Lib.hid hgrow; clear hown hgrow)
  have HB0 := Lib.hid ((al w (.cells #[] 44)).grown HGR.out (by simp) (fun k e => by cases e; exact Nat.le_refl _))
  have HO2 := Lib.hid (show w1.ownsRow w.heap.size 44 3 v' all.length (wcs all) by have := HO.out; rw [Nat.zero_add] at this; exact this)
  clear HO HGR HN HR c1 c2
  go_loopw [5, 6] (fun ov kv wr => ∃ (out : List Wo) (k : Nat), kv = .int .i64 k ∧ Hid (WI L all out k 0) ∧ Hid (wr.ownsRow w.heap.size 44 3 ov out.length (wcs out)) ∧ Hid (Below w.heap.size w wr)) (fun _ kv _ => 300 - (intOf kv).toNat)
  case atStart => exact ⟨all, 0, rfl, HST, HO2, HB0⟩
  case round =>
    obtain ⟨out, k, rfl, HI, HR, HB⟩ := hrel
    have HLEN := Lib.hid (wos_len HI.out.nd fun x hx => by obtain ⟨y, hy, hr⟩ := HI.out.rch x hx; exact HG.out x y hy hr)
    obtain ⟨oa, oc, rfl⟩ := row_slice HR.out
    have hk256 : k ≤ 1000 := by have := HI.out.kl; have := HLEN.out; omega
    by_cases hlt : k < out.length
    · have t1 : (k : Int) < (out.length : Int) := by omega
      obtain ⟨x, hx⟩ : ∃ z, out.getD k zW = z := ⟨_, rfl⟩
      have HXE := Lib.hid hx
      have HXG := Lib.hid (show x.D ≤ 2000000 by obtain ⟨y, hy, hr⟩ := HI.out.rch _ (wo_mem hlt); have := HG.out _ y hy hr; rw [hx] at this; omega)
      have HKL := Lib.hid (show k < 300 by have := HLEN.out; omega)
      clear hx
      have hm0 := HB.out.size
      go_wp2_with fail
      go_loopw [5, 7] (fun ov iv wr => ∃ (out : List Wo) (i : Nat), i ≤ L.length ∧ iv = .int .i64 i ∧ Hid (WI L all out k i) ∧ Hid (k < out.length ∧ out.getD k zW = x) ∧ Hid (wr.ownsRow w.heap.size 44 3 ov out.length (wcs out)) ∧ Hid (Below w.heap.size w wr)) (fun _ iv _ => L.length - (intOf iv).toNat)
      case atStart => exact ⟨out, 0, by omega, rfl, HI, Lib.hid ⟨hlt, HXE.out⟩, HR, HB⟩
      case round =>
        clear HR HB HI HLEN HXE hlt t1 hm0
        obtain ⟨out, i, hiL, rfl, HI, HKX, HR, HB⟩ := hrel
        have hsz := HB.out.size
        have HLEN := Lib.hid (wos_len HI.out.nd fun x hx => by obtain ⟨y, hy, hr⟩ := HI.out.rch x hx; exact HG.out x y hy hr)
        obtain ⟨oa, oc, rfl⟩ := row_slice HR.out
        by_cases hil : i < L.length
        · have t1 : (i : Int) < (L.length : Int) := by omega
          have t2 : (k : Int) < (out.length : Int) := by have := HKX.out.1; omega
          obtain ⟨b1, o1, rfl, y0, y1, y2⟩ := wos_at (wos_of_row rfl HR.out) HKX.out.1
          rw [HKX.out.2] at y0 y1 y2
          have yz := World.block_lt_of_cell? _ _ y0
          have HIL := Lib.hid hil
          have hl20 : L.length ≤ 20 := HLL.out
          go_wp2_with fail
          refine (exec_any _ L x.v x.D x.c i HXG.out HLL.out HIL.out H9.out _ (HS.out.step HB.out)).mono ?_
          rintro e w2 ⟨rfl, b2⟩
          have HB2 := Lib.hid (keep2 b2 HB.out)
          have HR2 := Lib.hid (row_step HR.out b2)
          clear b2 y0 y1 y2 yz HR HB hsz
          have hsz2 := HB2.out.size
          cases hok : exB L x.D x.c i
          · have HI2 := Lib.hid (HI.out.skip fun q => by rw [HKX.out.2, hok] at q; cases q)
            clear hok HI
            have HB3 := Lib.hid (keep2 (al w2 (.cells #[.int .i64 x.v, .int .i64 (x.D : Int), .int .i64 x.c] 44)) HB2.out)
            have HR3 := Lib.hid (HR2.out.alloc (.cells #[.int .i64 x.v, .int .i64 (x.D : Int), .int .i64 x.c] 44))
            unfold exV exD
            rw [if_neg (by decide), if_neg (by decide)]
            go_wp2
            go_roundw
            case rel => exact ⟨out, i + 1, HIL.out, by go_num, HI2, HKX, HR3, HB3⟩
            case measure => have := HIL.out; simp [intOf]; omega
          · have HOK := Lib.hid hok
            clear hok
            unfold exV exD
            rw [if_pos rfl, if_pos rfl]
            obtain ⟨nv, hnv⟩ : ∃ z, (L.getD i zO).d = z := ⟨_, rfl⟩
            obtain ⟨nD, hnD⟩ : ∃ z : Nat, x.D + 2 ^ i = z := ⟨_, rfl⟩
            obtain ⟨nc, hnc⟩ : ∃ z, x.c = z := ⟨_, rfl⟩
            have HEX := Lib.hid (show exW L x i = ⟨nv, nD, nc⟩ by unfold exW; rw [hnv, hnD, hnc])
            rw [hnv, hnD, hnc]
            clear hnv hnD hnc
            have HB3 := Lib.hid (keep2 (al w2 (.cells #[.int .i64 nv, .int .i64 (nD : Int), .int .i64 nc] 44)) HB2.out)
            have HR3 := Lib.hid (HR2.out.alloc (.cells #[.int .i64 nv, .int .i64 (nD : Int), .int .i64 nc] 44))
            have HC3 := Lib.hid (Cs.new w2 w2.heap.size #[.int .i64 nv, .int .i64 (nD : Int), .int .i64 nc] 44 rfl)
            clear HB2 HR2
            have o0 := HC3.out.c 0 rfl
            have o1 := HC3.out.c 1 rfl
            have o2 := HC3.out.c 2 rfl
            have oz := HC3.out.2.2
            go_wp2_with fail
            refine (has_any _ out ⟨nv, nD, nc⟩ _ (wos_of_row rfl HR3.out)).mono ?_
            rintro e w3 ⟨rfl, b3⟩
            have HB4 := Lib.hid (keep2 b3 HB3.out)
            have HR4 := Lib.hid (row_step HR3.out b3)
            have HC4 := Lib.hid (HC3.out.step b3)
            clear b3 o0 o1 o2 oz HB3 HR3 HC3 hsz2
            have o0 := HC4.out.c 0 rfl
            have o1 := HC4.out.c 1 rfl
            have o2 := HC4.out.c 2 rfl
            have oz := HC4.out.2.2
            have hsz4 := HB4.out.size
            have hol := HLEN.out
            by_cases hin : (⟨nv, nD, nc⟩ : Wo) ∈ out
            · have HI2 := Lib.hid (HI.out.skip fun _ => by rw [HKX.out.2, HEX.out]; exact hin)
              rw [decide_eq_true hin]
              clear hin HI
              go_wp2
              go_roundw
              case rel => exact ⟨out, i + 1, HIL.out, by go_num, HI2, HKX, HR4, HB4⟩
              case measure => have := HIL.out; simp [intOf]; omega
            · have HI2 := Lib.hid (HI.out.app HKX.out.1 HIL.out (by rw [HKX.out.2]; exact HOK.out) (by rw [HKX.out.2, HEX.out]; exact hin))
              rw [HKX.out.2, HEX.out] at HI2
              rw [decide_eq_false hin]
              have HKX2 := Lib.hid (show k < (out ++ [(⟨nv, nD, nc⟩ : Wo)]).length ∧ (out ++ [(⟨nv, nD, nc⟩ : Wo)]).getD k zW = x from ⟨by rw [List.length_append]; have := HKX.out.1; omega, by rw [app_getD HKX.out.1]; exact HKX.out.2⟩)
              clear hin HI HKX
              go_wp2_with (at_builtin; refine wpList_append_own _ rfl _ _ 52 rfl w.heap.size 44 i0 _ 3 24 Try.underlying52 hi hz0 hz1 hz2 rfl (by decide) _ _ _ rfl (HR4.out.alloc _) ⟨w3.heap.size, 0, none⟩ 1 1 [.int .i64 nv, .int .i64 (nD : Int), .int .i64 nc] rfl rfl (cell_three_new _ _ _ _ _ _ (by simp)) (by simp [Value.oneCell']) (by unfold maxLen; omega) (by omega) (by simp; omega) ?_; intro v' w1 hown hgrow _; have HR5 := Lib.hid hown; have HB5 := Lib.hid (below_own (Nat.le_refl _) HB4.out HR4.out hgrow); clear hown hgrow)
              go_roundw
              case rel => exact ⟨out ++ [⟨nv, nD, nc⟩], i + 1, HIL.out, by go_num, HI2, HKX2, by rw [wcs_app, wcs_one, List.length_append]; exact HR5, HB5⟩
              case measure => have := HIL.out; simp [intOf]; omega
        · obtain rfl : i = L.length := by omega
          have HI2 := Lib.hid (HI.out.next (Nat.le_refl _) HKX.out.1)
          go_wp2
          go_roundw
          case rel => exact ⟨out, k + 1, by go_num, HI2, HR, HB⟩
          case measure => have := HKL.out; simp [intOf]; omega
    · have HCL := Lib.hid (HI.out.clo (by omega))
      have HQ := HR
      have t1 : ¬ (k : Int) < (out.length : Int) := by omega
      go_wp2
      go_ret
      exact ⟨_, rfl, out, HQ.out, HI.out.nd, HI.out.sub, HCL.out, HI.out.rch, HB.out⟩
end Go.Proofs.Ytolinnmhdclgpaa
