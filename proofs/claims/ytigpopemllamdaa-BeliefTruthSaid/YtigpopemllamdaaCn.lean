/- The law 'BeliefTruth': the world of a run. -/
import Derived.Test.YtigpopemllamdaaCm
import Derived.Test.YtigpopemllamdaaCh
import Derived.Test.YtigpopemllamdaaCj
import Derived.Deep.AppendLies
import Derived.Deep.CutRange
namespace Go.Proofs.Ytigpopemllamdaa
open Go.RowKit

/-- A block is not that of an address. -/
def nb (x : Option Addr) (k : Nat) : Prop := ∀ g o, x = some ⟨g, o, none⟩ → g ≠ k
def nb2 (x y : Option Addr) : Prop := ∀ g o g' o', x = some ⟨g, o, none⟩ → y = some ⟨g', o', none⟩ → g ≠ g'
/-- A list's block is none of the run's own. -/
def Far (la : Option Addr) (kw kl : Nat) (x : Option Addr) : Prop := nb2 x la ∧ nb x kw ∧ nb x kl
theorem far_fresh {la x : Option Addr} {kw kl N : Nat} (h : ∀ g o, x = some ⟨g, o, none⟩ → N ≤ g) (h1 : ∀ g o, la = some ⟨g, o, none⟩ → g < N) (h2 : kw < N) (h3 : kl < N) : Far la kw kl x :=
  ⟨fun g o g' o' e e' => by have := h g o e; have := h1 g' o' e'; omega, fun g o e => by have := h g o e; omega, fun g o e => by have := h g o e; omega⟩
structure WT (base kb kw kl : Nat) (la : Option Addr) (lc : Nat) (L : List Od) (v : Int) (D : Nat) (c : Int) (z : Od) (V : List Int) (M : List Od) (w : World) : Prop where
  bb : ∃ (ua : Option Addr) (uc : Nat) (fa : Option Addr) (fc : Nat), BoxN w kb #[.slice ua V.length uc, .slice fa M.length fc] 25 ∧ Rb V M ua uc fa fc w ∧ (V ≠ [] → Far la kw kl ua) ∧ (M ≠ [] → Far la kw kl fa)
  wb : Cs w kw #[.int .i64 v, .int .i64 (D : Int), .int .i64 c]
  zb : Cs w kl #[.int .i64 z.a, .int .i64 z.b, .int .i64 z.c, .int .i64 z.d]
  row : w.ownsRow base 27 4 (.slice la L.length lc) L.length (ocs L)
  bs : base ≤ w.heap.size
  k1 : kb < base ∧ kw < base ∧ kl < base
  k2 : kb ≠ kw ∧ kb ≠ kl ∧ kw ≠ kl
theorem WT.step {base kb kw kl : Nat} {la : Option Addr} {lc : Nat} {L : List Od} {v : Int} {D : Nat} {c : Int} {z : Od} {V : List Int} {M : List Od} {w : World} {w' : World} (h : WT base kb kw kl la lc L v D c z V M w) (hb : Below w.heap.size w w') : WT base kb kw kl la lc L v D c z V M w' := by
  obtain ⟨ua, uc, fa, fc, h1, h2, h3, h4⟩ := h.bb
  exact ⟨⟨ua, uc, fa, fc, h1.step hb, h2.step hb, h3, h4⟩, h.wb.step hb, h.zb.step hb, row_step h.row hb, Nat.le_trans h.bs hb.size, h.k1, h.k2⟩
theorem chg_grown {k : Nat} {w w' : World} (hc : Chg k w w') : w.grownBy w' (some k) := ⟨hc.os, hc.tape, hc.output, hc.size, fun j hj hr => hc.block j hj (fun e => hr (by rw [e]))⟩
theorem row_chg {k base e s n c m : Nat} {a : Option Addr} {xs : List Value} {w w' : World} (h : w.ownsRow base e s (.slice a n c) m xs) (hc : Chg k w w') (hk : k < base) : w'.ownsRow base e s (.slice a n c) m xs := by
  refine h.kept (chg_grown hc) ?_
  cases a with
  | none => exact .inl rfl
  | some ad =>
    refine .inr ?_
    rcases h.2 with ⟨e, -⟩ | ⟨g, cap, cur, e, h1, -⟩
    · cases e
    · cases e
      intro q
      have : g = k := by simpa [Value.ownBlock] using q
      omega
theorem rb_chg {k : Nat} {V : List Int} {M : List Od} {ua fa : Option Addr} {uc fc : Nat} {w w' : World} (h : Rb V M ua uc fa fc w) (hc : Chg k w w') (h1 : V ≠ [] → nb ua k) (h2 : M ≠ [] → nb fa k) : Rb V M ua uc fa fc w' := by
  constructor
  · by_cases hl : V = []
    · obtain ⟨a, c, e, hm, -⟩ := h.1
      exact ⟨a, c, e, hm, fun q => absurd hl q⟩
    · exact hc.ints (h1 hl) h.1
  · by_cases hl : M = []
    · obtain ⟨a, c, e, h1, hm, -⟩ := h.2
      exact ⟨a, c, e, h1, hm, fun q => absurd hl q⟩
    · exact hc.ods (h2 hl) h.2
/-- The belief's box gets another belief. -/
theorem WT.putB {base kb kw kl : Nat} {la : Option Addr} {lc : Nat} {L : List Od} {v : Int} {D : Nat} {c : Int} {z : Od} {V : List Int} {M : List Od} {w : World} {V' : List Int} {M' : List Od} {ua fa : Option Addr} {uc fc : Nat} (h : WT base kb kw kl la lc L v D c z V M w) (hr : Rb V' M' ua uc fa fc w) (h1 : V' ≠ [] → Far la kw kl ua) (h2 : M' ≠ [] → Far la kw kl fa) :
    WT base kb kw kl la lc L v D c z V' M' (putB w kb (.slice ua V'.length uc) (.slice fa M'.length fc)) := by
  obtain ⟨_, _, _, _, b1, -⟩ := h.bb
  have hc := putB_chg w kb (.slice ua V'.length uc) (.slice fa M'.length fc)
  exact ⟨⟨ua, uc, fa, fc, putB_box b1 _ _, hr.kept hc (sl_of b1), h1, h2⟩, hc.cs (Ne.symm h.k2.1) h.wb, hc.cs (Ne.symm h.k2.2.1) h.zb, row_chg h.row hc h.k1.1, Nat.le_trans h.bs hc.size, h.k1, h.k2⟩
/-- The device's box is written. -/
theorem WT.setW {base kb kw kl : Nat} {la : Option Addr} {lc : Nat} {L : List Od} {v : Int} {D : Nat} {c : Int} {z : Od} {V : List Int} {M : List Od} {w : World} {v' : Int} {D' : Nat} {c' : Int} {w' : World} (h : WT base kb kw kl la lc L v D c z V M w) (hc : Chg kw w w') (hcs : Cs w' kw #[.int .i64 v', .int .i64 (D' : Int), .int .i64 c']) : WT base kb kw kl la lc L v' D' c' z V M w' := by
  obtain ⟨ua, uc, fa, fc, h1, h2, h3, h4⟩ := h.bb
  exact ⟨⟨ua, uc, fa, fc, (hc.block kb h1.lt h.k2.1).trans h1, rb_chg h2 hc (fun q => (h3 q).2.1) (fun q => (h4 q).2.1), h3, h4⟩, hcs, hc.cs (Ne.symm h.k2.2.2) h.zb, row_chg h.row hc h.k1.2.1, Nat.le_trans h.bs hc.size, h.k1, h.k2⟩
/-- The last order's box is written. -/
theorem WT.setZ {base kb kw kl : Nat} {la : Option Addr} {lc : Nat} {L : List Od} {v : Int} {D : Nat} {c : Int} {z : Od} {V : List Int} {M : List Od} {w : World} {z' : Od} {w' : World} (h : WT base kb kw kl la lc L v D c z V M w) (hc : Chg kl w w') (hcs : Cs w' kl #[.int .i64 z'.a, .int .i64 z'.b, .int .i64 z'.c, .int .i64 z'.d]) : WT base kb kw kl la lc L v D c z' V M w' := by
  obtain ⟨ua, uc, fa, fc, h1, h2, h3, h4⟩ := h.bb
  exact ⟨⟨ua, uc, fa, fc, (hc.block kb h1.lt h.k2.2.1).trans h1, rb_chg h2 hc (fun q => (h3 q).2.2) (fun q => (h4 q).2.2), h3, h4⟩, hc.cs h.k2.2.2 h.wb, hcs, row_chg h.row hc h.k1.2.2, Nat.le_trans h.bs hc.size, h.k1, h.k2⟩
theorem row_lt {w : World} {base e s n c m : Nat} {a : Option Addr} {xs : List Value} (h : w.ownsRow base e s (.slice a n c) m xs) : ∀ g o, a = some ⟨g, o, none⟩ → g < w.heap.size := by
  intro g o ha
  subst ha
  rcases h.2 with ⟨e, -⟩ | ⟨g', cap, cur, e, h1, h2, -⟩
  · cases e
  · cases e
    exact (Array.getElem?_eq_some_iff.1 h2).1
theorem ints_lt {w : World} {a : Option Addr} {n c : Nat} {l : List Int} (h : IntsAt w (.slice a n c) l) (hl : l ≠ []) : ∀ g o, a = some ⟨g, o, none⟩ → g < w.heap.size := by
  obtain ⟨a1, cap, hv, hm, hc⟩ := h
  obtain ⟨b1, off, ha, hx⟩ := hc hl
  intro g o e
  have ea : a = a1 := by simp at hv; exact hv.1
  rw [ea, ha] at e
  cases e
  exact World.block_lt_of_cell? _ _ (hx 0 _ (List.getElem?_eq_getElem (List.length_pos_iff.2 hl)))
theorem ods_lt {w : World} {a : Option Addr} {n c : Nat} {l : List Od} (h : OdsAt w (.slice a n c) l) (hl : l ≠ []) : ∀ g o, a = some ⟨g, o, none⟩ → g < w.heap.size := by
  obtain ⟨a1, cap, hv, h1, hm, hc⟩ := h
  obtain ⟨b1, off, ha, hx⟩ := hc hl
  intro g o e
  have ea : a = a1 := by simp at hv; exact hv.1
  rw [ea, ha] at e
  cases e
  exact World.block_lt_of_cell? _ _ (hx 0 _ (List.getElem?_eq_getElem (List.length_pos_iff.2 hl))).1
theorem grown_cs {w w' : World} {k : Nat} {vs : Array Value} {r : Option Nat} (h : Cs w k vs) (hg : w.grownBy w' r) (hr : some k ≠ r) : Cs w' k vs :=
  ⟨fun j hj => (World.cell?_of_block (a := ⟨k, j, none⟩) (hg.block k h.2.2 hr)).trans (h.1 j hj), fun j hj => (World.frozen?_of_block (a := ⟨k, j, none⟩) (hg.block k h.2.2 hr)).trans (h.2.1 j hj), Nat.lt_of_lt_of_le h.2.2 hg.size⟩
theorem grown_ints {w w' : World} {a : Option Addr} {n c : Nat} {l : List Int} {r : Option Nat} (h : IntsAt w (.slice a n c) l) (hg : w.grownBy w' r) (hr : l ≠ [] → ∀ g o, a = some ⟨g, o, none⟩ → some g ≠ r) : IntsAt w' (.slice a n c) l := by
  obtain ⟨a1, cap, hv, hm, hc⟩ := h
  refine ⟨a1, cap, hv, hm, fun hl => ?_⟩
  obtain ⟨b1, off, ha, hx⟩ := hc hl
  have hn := hr hl b1 off ((by simp at hv; exact hv.1 : a = a1).trans ha)
  exact ⟨b1, off, ha, fun i x hi => hg.cell (hx i x hi) hn⟩
theorem grown_ods {w w' : World} {a : Option Addr} {n c : Nat} {l : List Od} {r : Option Nat} (h : OdsAt w (.slice a n c) l) (hg : w.grownBy w' r) (hr : l ≠ [] → ∀ g o, a = some ⟨g, o, none⟩ → some g ≠ r) : OdsAt w' (.slice a n c) l := by
  obtain ⟨a1, cap, hv, h1, hm, hc⟩ := h
  refine ⟨a1, cap, hv, h1, hm, fun hl => ?_⟩
  obtain ⟨b1, off, ha, hx⟩ := hc hl
  have hn := hr hl b1 off ((by simp at hv; exact hv.1 : a = a1).trans ha)
  refine ⟨b1, off, ha, fun i x hi => ?_⟩
  obtain ⟨q0, q1, q2, q3⟩ := hx i x hi
  exact ⟨hg.cell q0 hn, hg.cell q1 hn, hg.cell q2 hn, hg.cell q3 hn⟩
theorem own_some {w : World} {base e s n c m k : Nat} {a : Option Addr} {xs : List Value} (h : w.ownsRow base e s (.slice a n c) m xs) (hk : some k = (Value.slice a n c).ownBlock) : ∃ o, a = some ⟨k, o, none⟩ ∧ base ≤ k := by
  rcases h.2 with ⟨e, -⟩ | ⟨g, cap, cur, e, h1, -⟩
  · cases e; simp [Value.ownBlock] at hk
  · cases e
    have : k = g := by simpa [Value.ownBlock] using hk
    subst this
    exact ⟨0, rfl, h1⟩
/-- An order is appended to the row of the orders. -/
theorem WT.app {base kb kw kl : Nat} {la : Option Addr} {lc : Nat} {L : List Od} {v : Int} {D : Nat} {c : Int} {z : Od} {V : List Int} {M : List Od} {w : World} {la' : Option Addr} {lc' : Nat} {x : Od} {w' : World} (h : WT base kb kw kl la lc L v D c z V M w) (hg : w.grownBy w' (Value.slice la L.length lc).ownBlock) (hr : w'.ownsRow base 27 4 (.slice la' (L ++ [x]).length lc') (L ++ [x]).length (ocs (L ++ [x])))
    (ha : (Value.slice la' (L ++ [x]).length lc').ownBlock = (Value.slice la L.length lc).ownBlock ∨ ∀ k, (Value.slice la' (L ++ [x]).length lc').ownBlock = some k → w.heap.size ≤ k) : WT base kb kw kl la' lc' (L ++ [x]) v D c z V M w' := by
  obtain ⟨ua, uc, fa, fc, h1, h2, h3, h4⟩ := h.bb
  have hk : ∀ k, k < base → some k ≠ (Value.slice la L.length lc).ownBlock := fun k hk e => by
    obtain ⟨-, -, h5⟩ := own_some h.row e; omega
  have hx : ∀ a : Option Addr, nb2 a la → ∀ g o, a = some ⟨g, o, none⟩ → some g ≠ (Value.slice la L.length lc).ownBlock := fun a hn g o e q => by
    obtain ⟨o', h5, -⟩ := own_some h.row q
    exact hn g o g o' e h5 rfl
  have hl' : ∀ a : Option Addr, (∀ g o, a = some ⟨g, o, none⟩ → g < w.heap.size) → nb2 a la → nb2 a la' := fun a hlt hn g o g' o' e e' => by
    rcases ha with q | q
    · have h6 : (Value.slice la' (L ++ [x]).length lc').ownBlock = some g' := by
        rcases hr.2 with ⟨e2, -⟩ | ⟨g2, cap, cur, e2, -⟩
        · have e3 : la' = none := by injection e2
          rw [e3] at e'; cases e'
        · have e3 : la' = some ⟨g2, 0, none⟩ := by injection e2
          rw [e3] at e' ⊢; cases e'; rfl
      rw [q] at h6
      obtain ⟨o2, h7, -⟩ := own_some h.row h6.symm
      exact hn g o g' o2 e h7
    · have h6 : (Value.slice la' (L ++ [x]).length lc').ownBlock = some g' := by
        rcases hr.2 with ⟨e2, -⟩ | ⟨g2, cap, cur, e2, -⟩
        · have e3 : la' = none := by injection e2
          rw [e3] at e'; cases e'
        · have e3 : la' = some ⟨g2, 0, none⟩ := by injection e2
          rw [e3] at e' ⊢; cases e'; rfl
      have := q g' h6
      have := hlt g o e
      omega
  refine ⟨⟨ua, uc, fa, fc, (hg.block kb h1.lt (hk kb h.k1.1)).trans h1, ⟨grown_ints h2.1 hg (fun q => hx ua (h3 q).1), grown_ods h2.2 hg (fun q => hx fa (h4 q).1)⟩, fun q => ⟨hl' ua (ints_lt h2.1 q) (h3 q).1, (h3 q).2⟩, fun q => ⟨hl' fa (ods_lt h2.2 q) (h4 q).1, (h4 q).2⟩⟩, grown_cs h.wb hg (hk kw h.k1.2.1), grown_cs h.zb hg (hk kl h.k1.2.2), hr, Nat.le_trans h.bs hg.size, h.k1, h.k2⟩
theorem WT.below {base kb kw kl : Nat} {la : Option Addr} {lc : Nat} {L : List Od} {v : Int} {D : Nat} {c : Int} {z : Od} {V : List Int} {M : List Od} {w : World} (_ : WT base kb kw kl la lc L v D c z V M w) {lo : Nat} {w1 : World} (hb : Below lo w1 w) (hlo : lo ≤ base) {w' : World} (hg : w.grownBy w' (Value.slice la L.length lc).ownBlock) (hr : w.ownsRow base 27 4 (.slice la L.length lc) L.length (ocs L)) (hs : lo ≤ w.heap.size) : Below lo w1 w' :=
  hb.grown hg hs fun k ek => by
    obtain ⟨-, -, h5⟩ := own_some hr ek.symm
    omega
/-- A change's answer, its lists being new. -/
def ChF (V : List Int) (M : List Od) (E : Int) (w : World) (e : Ending) (w' : World) : Prop :=
  ∃ (ua : Option Addr) (uc : Nat) (fa : Option Addr) (fc : Nat), e = .returned (.tuple #[.agg #[.slice ua V.length uc, .slice fa M.length fc], .int .i64 E]) ∧ Below w.heap.size w w' ∧ Rb V M ua uc fa fc w' ∧ (∀ g o, ua = some ⟨g, o, none⟩ → w.heap.size ≤ g) ∧ ∀ g o, fa = some ⟨g, o, none⟩ → w.heap.size ≤ g
theorem chf_of {w w' : World} {E : Int} {M : List Od} {e : Ending} (h : ChP w E M e w') : ChF (rV E M) (rM E M) E w e w' := by
  obtain ⟨bv, he, hb, h1, h2⟩ := h
  unfold rV rM
  by_cases hE : E = 0
  · obtain ⟨ua, uc, fa, fc, rfl, hi, ho, ku, kf⟩ := h2 hE
    rw [if_pos hE, if_pos hE]
    exact ⟨ua, uc, fa, fc, he, hb, ⟨hi, ho⟩, ku, kf⟩
  · have hz := h1 hE
    rw [if_neg hE, if_neg hE]
    exact ⟨none, 0, none, 0, by rw [he, hz]; rfl, hb, ⟨ints_nil w', ods_nil w'⟩, fun g o e => (by cases e), fun g o e => (by cases e)⟩
theorem sent_f {V V' : List Int} {L M' : List Od} (o : Od) {E : Int} (hE : snE V L o = E) (hV' : rV E (L ++ [o]) = V') (hM' : rM E (L ++ [o]) = M') (va : Option Addr) (vc : Nat) (sa : Option Addr) (sc : Nat) (w : World) (h : Rb V L va vc sa sc w) (h9 : L.length ≤ 300) (h8 : V.length ≤ 300) :
    Calls Try.prog 11 #[.agg #[.slice va V.length vc, .slice sa L.length sc], .agg #[.int .i64 o.a, .int .i64 o.b, .int .i64 o.c, .int .i64 o.d]] w (ChF V' M' E w) := by
  subst hV' hM' hE
  exact (sent_any va vc V sa sc L o w h.2 h.1 h9 h8 _ rfl).mono fun e w' q => chf_of q
theorem confirmed_f {V V' : List Int} {L M' : List Od} (q : Int) {E : Int} (hE : cnE V L q = E) (hV' : rV E (cfM q L) = V') (hM' : rM E (cfM q L) = M') (va : Option Addr) (vc : Nat) (sa : Option Addr) (sc : Nat) (w : World) (h : Rb V L va vc sa sc w) (h9 : L.length ≤ 300) (h8 : V.length ≤ 300) :
    Calls Try.prog 13 #[.agg #[.slice va V.length vc, .slice sa L.length sc], .int .i64 q] w (ChF V' M' E w) := by
  subst hV' hM' hE
  exact (confirmed_any va vc V sa sc L q w h.2 h.1 h9 h8 _ rfl).mono fun e w' q => chf_of q
theorem reported_f {V V' : List Int} {L M' : List Od} (v t : Int) {E : Int} (hE : rnE V L v t = E) (hV' : rV E (rpM L v t) = V') (hM' : rM E (rpM L v t) = M') (va : Option Addr) (vc : Nat) (sa : Option Addr) (sc : Nat) (w : World) (h : Rb V L va vc sa sc w) (h9 : L.length ≤ 300) (h8 : V.length ≤ 300) :
    Calls Try.prog 15 #[.agg #[.slice va V.length vc, .slice sa L.length sc], .int .i64 v, .int .i64 t] w (ChF V' M' E w) := by
  subst hV' hM' hE
  exact (reported_any va vc V sa sc L v t w h.2 h.1 h9 h8 _ rfl).mono fun e w' q => chf_of q
theorem app_row {w : World} {base dc g : Nat} {da : Option Addr} {D D' : List Od} {x : Od} (h : w.ownsRow base 27 4 (.slice da D.length dc) D.length (ocs D)) (hb : BoxN w g #[.int .i64 x.a, .int .i64 x.b, .int .i64 x.c, .int .i64 x.d] 27) (hD : D.length ≤ 100000) (hD' : D' = D ++ [x]) (hl : base ≤ w.heap.size) :
    ∃ (da' : Option Addr) (dc' : Nat) (w' : World), (Builtin.append_ #[23, 23] 23 #[.slice da D.length dc, .slice (some ⟨g, 0, none⟩) 1 1]).run Try.prog w = .ok (.slice da' D'.length dc') w' ∧ w.grownBy w' (Value.slice da D.length dc).ownBlock ∧ w'.ownsRow base 27 4 (.slice da' D'.length dc') D'.length (ocs D') ∧
      ((Value.slice da' D'.length dc').ownBlock = (Value.slice da D.length dc).ownBlock ∨ ∀ k, (Value.slice da' D'.length dc').ownBlock = some k → w.heap.size ≤ k) := by
  have nx7 : ∀ j u, ([.int .i64 x.a, .int .i64 x.b, .int .i64 x.c, .int .i64 x.d] : List Value)[j]? = some u → w.cell? ((⟨g, 0, none⟩ : Addr).add j) = some u := World.news_of_block hb
  obtain ⟨i0, hi, hz0, hz1, hz2⟩ := info_parts od_info
  obtain ⟨v8, w8, hr8, ho8, hg8, -, ha8⟩ := run_append_own_at (P := Try.prog) w base 23 23 27 i0 _ 4 32 Try.underlying23 hi hz0 hz1 hz2 rfl (by decide) (.slice da D.length dc) D.length (ocs D) h ⟨g, 0, none⟩ 1 1 [.int .i64 x.a, .int .i64 x.b, .int .i64 x.c, .int .i64 x.d] rfl nx7 (by simp [Value.oneCell']) (by unfold maxLen; omega) (by omega) hl
  have e1 : D'.length = D.length + 1 := by rw [hD']; simp
  obtain ⟨da', dc', rfl⟩ := row_slice ho8
  refine ⟨da', dc', w8, by rw [e1]; exact hr8, hg8, ?_, ?_⟩
  · rw [e1, hD', ocs_app, ocs_one]; exact ho8
  · rw [e1]
    rcases ha8 with q | q
    · exact .inl q
    · exact .inr fun k hk => by rw [q] at hk; cases hk; exact Nat.le_refl _
end Go.Proofs.Ytigpopemllamdaa
