import Derived.Deep.AppendLies
import Derived.Test.YtnanndmpbecdiaaPa
import Derived.Test.YtnanndmpbecdiaaTa
namespace Go.Proofs.Ytnanndmpbecdiaa
open Go.RowKit

/-- A block is not that of an address. -/
def nb (x : Option Addr) (k : Nat) : Prop := ∀ g o, x = some ⟨g, o, none⟩ → g ≠ k
def nb2 (x y : Option Addr) : Prop := ∀ g o g' o', x = some ⟨g, o, none⟩ → y = some ⟨g', o', none⟩ → g ≠ g'
/-- A list's block is none of the run's own. -/
def Far (la : Option Addr) (kw kl : Nat) (x : Option Addr) : Prop := nb2 x la ∧ nb x kw ∧ nb x kl
theorem far_fresh {la x : Option Addr} {kw kl N : Nat} (h : ∀ g o, x = some ⟨g, o, none⟩ → N ≤ g) (h1 : ∀ g o, la = some ⟨g, o, none⟩ → g < N) (h2 : kw < N) (h3 : kl < N) : Far la kw kl x :=
  ⟨fun g o g' o' e e' => by have := h g o e; have := h1 g' o' e'; omega, fun g o e => by have := h g o e; omega, fun g o e => by have := h g o e; omega⟩
/-- Of the older blocks, one alone may have changed. -/
structure Chg (k : Nat) (w w' : World) : Prop where
  os : w'.os = w.os
  tape : w'.tape = w.tape
  output : w'.output = w.output
  size : w.heap.size ≤ w'.heap.size
  block : ∀ j, j < w.heap.size → j ≠ k → w'.heap[j]? = w.heap[j]?
theorem Chg.of {k : Nat} {w w' : World} (h : Below w.heap.size w w') : Chg k w w' := ⟨h.os, h.tape, h.output, h.size, fun j hj _ => h.block j hj⟩
theorem Chg.set {k : Nat} {w w1 : World} (h : Chg k w w1) (o : Nat) (v : Value) : Chg k w (w1.setCell ⟨k, o, none⟩ v) :=
  ⟨h.os, h.tape, h.output, by simpa using h.size, fun j hj hk => (Below.heap_setCell w1 ⟨k, o, none⟩ v j hk).trans (h.block j hj hk)⟩
theorem Chg.below {k B : Nat} {w w' : World} (h : Chg k w w') (hk : B ≤ k) (hB : B ≤ w.heap.size) : Below B w w' :=
  ⟨h.os, h.tape, h.output, h.size, fun j hj => h.block j (Nat.lt_of_lt_of_le hj hB) (by omega)⟩
theorem Chg.cs {k m : Nat} {w w' : World} {vs : Array Value} (h : Chg k w w') (hm : m ≠ k) (hc : Cs w m vs) : Cs w' m vs :=
  ⟨fun j hj => (World.cell?_of_block (a := ⟨m, j, none⟩) (h.block m hc.2.2 hm)).trans (hc.1 j hj), fun j hj => (World.frozen?_of_block (a := ⟨m, j, none⟩) (h.block m hc.2.2 hm)).trans (hc.2.1 j hj), Nat.lt_of_lt_of_le hc.2.2 h.size⟩
theorem chg_grown {k : Nat} {w w' : World} (hc : Chg k w w') : w.grownBy w' (some k) := ⟨hc.os, hc.tape, hc.output, hc.size, fun j hj hr => hc.block j hj (fun e => hr (by rw [e]))⟩
theorem own_some {w : World} {base e s n c m k : Nat} {a : Option Addr} {xs : List Value} (h : w.ownsRow base e s (.slice a n c) m xs) (hk : some k = (Value.slice a n c).ownBlock) : ∃ o, a = some ⟨k, o, none⟩ ∧ base ≤ k := by
  rcases h.2 with ⟨e, -⟩ | ⟨g, cap, cur, e, h1, -⟩
  · cases e; simp [Value.ownBlock] at hk
  · cases e
    have : k = g := by simpa [Value.ownBlock] using hk
    subst this
    exact ⟨0, rfl, h1⟩
theorem row_chg {k base e s n c m : Nat} {a : Option Addr} {xs : List Value} {w w' : World} (h : w.ownsRow base e s (.slice a n c) m xs) (hc : Chg k w w') (hk : k < base) : w'.ownsRow base e s (.slice a n c) m xs := by
  refine h.kept (chg_grown hc) ?_
  cases a with
  | none => exact .inl rfl
  | some ad =>
    refine .inr ?_
    intro q
    obtain ⟨o, -, h2⟩ := own_some h q.symm
    omega
theorem row_ltA {w : World} {base e s n c m : Nat} {a : Option Addr} {xs : List Value} (h : w.ownsRow base e s (.slice a n c) m xs) : ∀ g o, a = some ⟨g, o, none⟩ → g < w.heap.size := by
  intro g o ha
  subst ha
  rcases h.2 with ⟨e, -⟩ | ⟨g', cap, cur, e, h1, h2, -⟩
  · cases e
  · cases e
    exact (Array.getElem?_eq_some_iff.1 h2).1
theorem vos_like {w w' : World} {a : Option Addr} {n c : Nat} {l : List Vo} (h : VosAt w (.slice a n c) l) (hb : l ≠ [] → ∀ g o, a = some ⟨g, o, none⟩ → g < w.heap.size → w'.heap[g]? = w.heap[g]?) : VosAt w' (.slice a n c) l := by
  obtain ⟨a2, cap, hv, hm, hc⟩ := id h
  refine ⟨a2, cap, hv, hm, fun hl => ?_⟩
  obtain ⟨b1, off, ha, hx⟩ := hc hl
  have hg : a = a2 := by simp at hv; exact hv.1
  have hq := hb hl b1 off (hg.trans ha) (World.block_lt_of_cell? _ _ (hx 0 _ (List.getElem?_eq_getElem (List.length_pos_iff.2 hl))).1)
  have hk : ∀ o, w'.cell? ⟨b1, o, none⟩ = w.cell? ⟨b1, o, none⟩ := fun o => World.cell?_of_block (a := ⟨b1, o, none⟩) hq
  refine ⟨b1, off, ha, fun i x hi => ?_⟩
  obtain ⟨q0, q1, q2⟩ := hx i x hi
  exact ⟨(hk _).trans q0, (hk _).trans q1, (hk _).trans q2⟩
theorem bos_like {w w' : World} {a : Option Addr} {n c : Nat} {l : List Bool} (h : BosAt w (.slice a n c) l) (hb : ∀ g o, a = some ⟨g, o, none⟩ → g < w.heap.size → w'.heap[g]? = w.heap[g]?) : BosAt w' (.slice a n c) l := by
  obtain ⟨a2, cap, hv, hm, hc⟩ := id h
  refine ⟨a2, cap, hv, hm, fun hl => ?_⟩
  obtain ⟨b1, off, ha, hx⟩ := hc hl
  have hg : a = a2 := by simp at hv; exact hv.1
  have hq := hb b1 off (hg.trans ha) (World.block_lt_of_cell? _ _ (hx 0 _ (List.getElem?_eq_getElem (List.length_pos_iff.2 hl))))
  exact ⟨b1, off, ha, fun i x hi => (World.cell?_of_block (a := ⟨b1, off + i, none⟩) hq).trans (hx i x hi)⟩
theorem ints_like {w w' : World} {a : Option Addr} {n c : Nat} {l : List Int} (h : IntsAt w (.slice a n c) l) (hb : ∀ g o, a = some ⟨g, o, none⟩ → g < w.heap.size → w'.heap[g]? = w.heap[g]?) : IntsAt w' (.slice a n c) l := by
  obtain ⟨a2, cap, hv, hm, hc⟩ := id h
  refine ⟨a2, cap, hv, hm, fun hl => ?_⟩
  obtain ⟨b1, off, ha, hx⟩ := hc hl
  have hg : a = a2 := by simp at hv; exact hv.1
  have hq := hb b1 off (hg.trans ha) (World.block_lt_of_cell? _ _ (hx 0 _ (List.getElem?_eq_getElem (List.length_pos_iff.2 hl))))
  exact ⟨b1, off, ha, fun i x hi => (World.cell?_of_block (a := ⟨b1, off + i, none⟩) hq).trans (hx i x hi)⟩
theorem grown_cs {w w' : World} {k : Nat} {vs : Array Value} {r : Option Nat} (h : Cs w k vs) (hg : w.grownBy w' r) (hr : some k ≠ r) : Cs w' k vs :=
  ⟨fun j hj => (World.cell?_of_block (a := ⟨k, j, none⟩) (hg.block k h.2.2 hr)).trans (h.1 j hj), fun j hj => (World.frozen?_of_block (a := ⟨k, j, none⟩) (hg.block k h.2.2 hr)).trans (h.2.1 j hj), Nat.lt_of_lt_of_le h.2.2 hg.size⟩
/-- The cells of the last leases. -/
def lar (S : Nat → Ls) : Array Value := #[.int .i64 (S 0).h, .int .i64 (S 0).f, .int .i64 (S 0).u, .int .i64 (S 1).h, .int .i64 (S 1).f, .int .i64 (S 1).u, .int .i64 (S 2).h, .int .i64 (S 2).f, .int .i64 (S 2).u]
theorem lar_at {w : World} {k : Nat} {S : Nat → Ls} (h : Cs w k (lar S)) {j : Nat} (hj : j < 3) : w.cell? ⟨k, j * 3, none⟩ = some (.int .i64 (S j).h) ∧ w.cell? ⟨k, j * 3 + 1, none⟩ = some (.int .i64 (S j).f) ∧ w.cell? ⟨k, j * 3 + 2, none⟩ = some (.int .i64 (S j).u) ∧ w.frozen? ⟨k, j * 3, none⟩ = false ∧ w.frozen? ⟨k, j * 3 + 1, none⟩ = false ∧ w.frozen? ⟨k, j * 3 + 2, none⟩ = false := by
  have hs : (lar S).size = 9 := rfl
  obtain rfl | rfl | rfl : j = 0 ∨ j = 1 ∨ j = 2 := by omega
  · exact ⟨h.c 0 rfl, h.c 1 rfl, h.c 2 rfl, h.f 0 (by omega), h.f 1 (by omega), h.f 2 (by omega)⟩
  · exact ⟨h.c 3 rfl, h.c 4 rfl, h.c 5 rfl, h.f 3 (by omega), h.f 4 (by omega), h.f 5 (by omega)⟩
  · exact ⟨h.c 6 rfl, h.c 7 rfl, h.c 8 rfl, h.f 6 (by omega), h.f 7 (by omega), h.f 8 (by omega)⟩
theorem lar_set {w : World} {k : Nat} {S : Nat → Ls} (h : Cs w k (lar S)) {j : Nat} (hj : j < 3) (a b c : Int) : Cs (((w.setCell ⟨k, j * 3, none⟩ (.int .i64 a)).setCell ⟨k, j * 3 + 1, none⟩ (.int .i64 b)).setCell ⟨k, j * 3 + 2, none⟩ (.int .i64 c)) k (lar fun i => if i = j then ⟨a, b, c⟩ else S i) := by
  obtain rfl | rfl | rfl : j = 0 ∨ j = 1 ∨ j = 2 := by omega
  · exact Cs.set (Cs.set (Cs.set h 0 (by simp [lar]) (.int .i64 a) rfl) 1 (by simp [lar]) (.int .i64 b) rfl) 2 (by simp [lar]) (.int .i64 c) rfl
  · exact Cs.set (Cs.set (Cs.set h 3 (by simp [lar]) (.int .i64 a) rfl) 4 (by simp [lar]) (.int .i64 b) rfl) 5 (by simp [lar]) (.int .i64 c) rfl
  · exact Cs.set (Cs.set (Cs.set h 6 (by simp [lar]) (.int .i64 a) rfl) 7 (by simp [lar]) (.int .i64 b) rfl) 8 (by simp [lar]) (.int .i64 c) rfl
/-- An order that was sent, with its hub. -/
structure Sn where
  h : Int
  a : Int
  b : Int
  c : Int
  d : Int
def zS : Sn := ⟨0, 0, 0, 0, 0⟩
def Sn.cells (x : Sn) : List Value := [.int .i64 x.h, .int .i64 x.a, .int .i64 x.b, .int .i64 x.c, .int .i64 x.d]
def scs (l : List Sn) : List Value := l.flatMap Sn.cells
theorem scs_app (l m : List Sn) : scs (l ++ m) = scs l ++ scs m := by simp [scs]
theorem scs_one (x : Sn) : scs [x] = x.cells := by simp [scs]
theorem scs_get (l : List Sn) : ∀ (i : Nat) (x : Sn), l[i]? = some x → ∀ j, j < 5 → (scs l)[i * 5 + j]? = x.cells[j]? := by
  induction l with
  | nil => intro i x h; simp at h
  | cons y l ih =>
    intro i x h j hj
    have hs : scs (y :: l) = y.cells ++ scs l := by simp [scs]
    rw [hs]
    cases i with
    | zero =>
      simp at h; subst h
      rw [List.getElem?_append_left (by simp [Sn.cells]; omega)]
      simp
    | succ i =>
      rw [List.getElem?_append_right (by simp [Sn.cells]; omega)]
      have := ih i x (by simpa using h) j hj
      rw [← this]
      congr 1
      simp [Sn.cells]; omega
theorem sn_info : (Try.prog.info? 44).map (fun i => (i.zero, i.size, i.bytes)) = some (some (.agg #[.int .i64 0, .int .i64 0, .int .i64 0, .int .i64 0, .int .i64 0]), 5, 40) := by kernel_rfl
theorem sn_at {w : World} {base : Nat} {a : Option Addr} {n c : Nat} {l : List Sn} (h : w.ownsRow base 44 5 (.slice a n c) l.length (scs l)) {k : Nat} (hk : k < l.length) : ∃ b : Nat, a = some ⟨b, 0, none⟩ ∧ ∀ j u, (l.getD k zS).cells[j]? = some u → w.cell? ⟨b, k * 5 + j, none⟩ = some u := by
  have hc := fun g (hg : (Value.slice a n c).ownBlock = some g) => h.cells hg
  rcases h.2 with ⟨e, h0⟩ | ⟨g, cap, cur, e, h1, h2, h3, h4, -⟩
  · rw [h0] at hk; exact absurd hk (by omega)
  · cases e
    refine ⟨g, rfl, fun j u hu => ?_⟩
    have hj5 : j < 5 := by
      have := (List.getElem?_eq_some_iff.1 hu).1
      simpa [Sn.cells] using this
    have hq := hc g rfl (k * 5 + j) u ((scs_get l k _ (by simp [hk]) j hj5).trans hu)
    simp only [Go.WideShapes.add_plain, Nat.zero_add] at hq
    exact hq
theorem cell_five_new (W : World) (a b c d x : Value) (T : TypeId) (n : Nat) (hn : n = W.heap.size) : ∀ j u, [a, b, c, d, x][j]? = some u → (W.alloc (.cells #[a, b, c, d, x] T)).cell? ((⟨n, 0, none⟩ : Addr).add j) = some u := by
  subst hn
  intro j u hu
  rw [Go.WideShapes.add_plain, World.cell?_alloc_new]
  simpa using hu
/-- The world of a run. -/
structure WD (base kl kr : Nat) (va : Option Addr) (vc : Nat) (L : List Vo) (S : Nat → Ls) (t : Int) (W : List Bool) (f : Int) (l : List Int) (dn : Int) (sa : Option Addr) (sc : Nat) (Q : List Sn) (w : World) : Prop where
  vo : VosAt w (.slice va L.length vc) L
  vf : Far sa kl kr va
  ls : Cs w kl (lar S)
  rb : ∃ (ua : Option Addr) (uc : Nat) (na : Option Addr) (nc : Nat), Cs w kr #[.int .i64 t, .slice ua 16 uc, .int .i64 f, .slice na 1 nc, .int .i64 dn] ∧ BosAt w (.slice ua 16 uc) W ∧ IntsAt w (.slice na 1 nc) l ∧ Far sa kl kr ua ∧ Far sa kl kr na
  row : w.ownsRow base 44 5 (.slice sa Q.length sc) Q.length (scs Q)
  bs : base ≤ w.heap.size
  k1 : kl < base ∧ kr < base
  k2 : kl ≠ kr
section
variable {base kl kr : Nat} {va : Option Addr} {vc : Nat} {L : List Vo} {S : Nat → Ls} {t : Int} {W : List Bool} {f : Int} {l : List Int} {dn : Int} {sa : Option Addr} {sc : Nat} {Q : List Sn} {w w' : World}
theorem WD.step (h : WD base kl kr va vc L S t W f l dn sa sc Q w) (hb : Below w.heap.size w w') : WD base kl kr va vc L S t W f l dn sa sc Q w' := by
  obtain ⟨ua, uc, na, nc, h1, h2, h3, h4, h5⟩ := h.rb
  exact ⟨h.vo.step hb, h.vf, h.ls.step hb, ⟨ua, uc, na, nc, h1.step hb, h2.step hb, h3.step hb, h4, h5⟩, row_step h.row hb, Nat.le_trans h.bs hb.size, h.k1, h.k2⟩
/-- Other voters. -/
theorem WD.putV {va' : Option Addr} {vc' : Nat} {L' : List Vo} (h : WD base kl kr va vc L S t W f l dn sa sc Q w) (h1 : VosAt w (.slice va' L'.length vc') L') (h2 : Far sa kl kr va') : WD base kl kr va' vc' L' S t W f l dn sa sc Q w :=
  ⟨h1, h2, h.ls, h.rb, h.row, h.bs, h.k1, h.k2⟩
/-- A lease is kept. -/
theorem WD.setL {S' : Nat → Ls} (h : WD base kl kr va vc L S t W f l dn sa sc Q w) (hc : Chg kl w w') (hcs : Cs w' kl (lar S')) : WD base kl kr va vc L S' t W f l dn sa sc Q w' := by
  obtain ⟨ua, uc, na, nc, h1, h2, h3, h4, h5⟩ := h.rb
  exact ⟨vos_like h.vo fun _ g o e hlt => hc.block g hlt (h.vf.2.1 g o e), h.vf, hcs, ⟨ua, uc, na, nc, hc.cs (Ne.symm h.k2) h1, bos_like h2 fun g o e hlt => hc.block g hlt (h4.2.1 g o e), ints_like h3 fun g o e hlt => hc.block g hlt (h5.2.1 g o e), h4, h5⟩, row_chg h.row hc h.k1.1, Nat.le_trans h.bs hc.size, h.k1, h.k2⟩
/-- The receiver's box is written. -/
theorem WD.setR {t' : Int} {W' : List Bool} {f' : Int} {l' : List Int} {dn' : Int} {ua' na' : Option Addr} {uc' nc' : Nat} (h : WD base kl kr va vc L S t W f l dn sa sc Q w) (hc : Chg kr w w') (hcs : Cs w' kr #[.int .i64 t', .slice ua' 16 uc', .int .i64 f', .slice na' 1 nc', .int .i64 dn'])
    (h1 : BosAt w (.slice ua' 16 uc') W') (h2 : IntsAt w (.slice na' 1 nc') l') (h3 : Far sa kl kr ua') (h4 : Far sa kl kr na') : WD base kl kr va vc L S t' W' f' l' dn' sa sc Q w' :=
  ⟨vos_like h.vo fun _ g o e hlt => hc.block g hlt (h.vf.2.2 g o e), h.vf, hc.cs h.k2 h.ls, ⟨ua', uc', na', nc', hcs, bos_like h1 fun g o e hlt => hc.block g hlt (h3.2.2 g o e), ints_like h2 fun g o e hlt => hc.block g hlt (h4.2.2 g o e), h3, h4⟩, row_chg h.row hc h.k1.2, Nat.le_trans h.bs hc.size, h.k1, h.k2⟩
theorem far_move {sa' : Option Addr} {sc' m m' : Nat} {Q' : List Sn} {x : Option Addr} (hx : Far sa kl kr x) (hlt : ∀ g o, x = some ⟨g, o, none⟩ → g < w.heap.size) (hrow : w.ownsRow base 44 5 (.slice sa m sc) m (scs Q)) (hr : w'.ownsRow base 44 5 (.slice sa' m' sc') m' (scs Q'))
    (ha : (Value.slice sa' m' sc').ownBlock = (Value.slice sa m sc).ownBlock ∨ ∀ k, (Value.slice sa' m' sc').ownBlock = some k → w.heap.size ≤ k) : Far sa' kl kr x := by
  refine ⟨fun g o g' o' e e' => ?_, hx.2⟩
  have h6 : (Value.slice sa' m' sc').ownBlock = some g' := by
    rcases hr.2 with ⟨e2, -⟩ | ⟨g2, cap, cur, e2, -⟩
    · have e3 : sa' = none := by injection e2
      rw [e3] at e'; cases e'
    · have e3 : sa' = some ⟨g2, 0, none⟩ := by injection e2
      rw [e3] at e' ⊢; cases e'; rfl
  rcases ha with q | q
  · rw [q] at h6
    obtain ⟨o2, h7, -⟩ := own_some hrow h6.symm
    exact hx.1 g o g' o2 e h7
  · have := q g' h6
    have := hlt g o e
    omega
theorem vos_ltA (h : VosAt w (.slice va L.length vc) L) (hl : L ≠ []) : ∀ g o, va = some ⟨g, o, none⟩ → g < w.heap.size := by
  obtain ⟨a2, cap, hv, hm, hc⟩ := h
  obtain ⟨b1, off, ha, hx⟩ := hc hl
  intro g o e
  have ea : va = a2 := by simp at hv; exact hv.1
  rw [ea, ha] at e
  cases e
  exact World.block_lt_of_cell? _ _ (hx 0 _ (List.getElem?_eq_getElem (List.length_pos_iff.2 hl))).1
theorem bos_ltA {ua : Option Addr} {n uc : Nat} {W : List Bool} (h : BosAt w (.slice ua n uc) W) (hl : W ≠ []) : ∀ g o, ua = some ⟨g, o, none⟩ → g < w.heap.size := by
  obtain ⟨a2, cap, hv, hm, hc⟩ := h
  obtain ⟨b1, off, ha, hx⟩ := hc hl
  intro g o e
  have ea : ua = a2 := by simp at hv; exact hv.1
  rw [ea, ha] at e
  cases e
  exact World.block_lt_of_cell? _ _ (hx 0 _ (List.getElem?_eq_getElem (List.length_pos_iff.2 hl)))
theorem ints_ltA {ua : Option Addr} {n uc : Nat} {W : List Int} (h : IntsAt w (.slice ua n uc) W) (hl : W ≠ []) : ∀ g o, ua = some ⟨g, o, none⟩ → g < w.heap.size := by
  obtain ⟨a2, cap, hv, hm, hc⟩ := h
  obtain ⟨b1, off, ha, hx⟩ := hc hl
  intro g o e
  have ea : ua = a2 := by simp at hv; exact hv.1
  rw [ea, ha] at e
  cases e
  exact World.block_lt_of_cell? _ _ (hx 0 _ (List.getElem?_eq_getElem (List.length_pos_iff.2 hl)))
/-- An order is appended. -/
theorem WD.app {sa' : Option Addr} {sc' : Nat} {x : Sn} (h : WD base kl kr va vc L S t W f l dn sa sc Q w) (hL : L ≠ []) (hW : W ≠ []) (hl : l ≠ []) (hg : w.grownBy w' (Value.slice sa Q.length sc).ownBlock)
    (hr : w'.ownsRow base 44 5 (.slice sa' (Q.length + 1) sc') (Q.length + 1) (scs Q ++ [.int .i64 x.h, .int .i64 x.a, .int .i64 x.b, .int .i64 x.c, .int .i64 x.d]))
    (ha : (Value.slice sa' (Q.length + 1) sc').ownBlock = (Value.slice sa Q.length sc).ownBlock ∨ (Value.slice sa' (Q.length + 1) sc').ownBlock = some w.heap.size) : WD base kl kr va vc L S t W f l dn sa' sc' (Q ++ [x]) w' := by
  obtain ⟨ua, uc, na, nc, h1, h2, h3, h4, h5⟩ := h.rb
  have e1 : (Q ++ [x]).length = Q.length + 1 := by simp
  have hr2 : w'.ownsRow base 44 5 (.slice sa' (Q.length + 1) sc') (Q.length + 1) (scs (Q ++ [x])) := by rw [scs_app, scs_one]; exact hr
  have ha2 : (Value.slice sa' (Q.length + 1) sc').ownBlock = (Value.slice sa Q.length sc).ownBlock ∨ ∀ k, (Value.slice sa' (Q.length + 1) sc').ownBlock = some k → w.heap.size ≤ k := by
    rcases ha with q | q
    · exact .inl q
    · exact .inr fun k hk => by rw [q] at hk; cases hk; exact Nat.le_refl _
  have hk : ∀ k, k < base → some k ≠ (Value.slice sa Q.length sc).ownBlock := fun k hk e => by
    obtain ⟨-, -, h5⟩ := own_some h.row e; omega
  have hx : ∀ a : Option Addr, nb2 a sa → ∀ g o, a = some ⟨g, o, none⟩ → some g ≠ (Value.slice sa Q.length sc).ownBlock := fun a hn g o e q => by
    obtain ⟨o', h5, -⟩ := own_some h.row q
    exact hn g o g o' e h5 rfl
  have mv := fun (y : Option Addr) (hy : Far sa kl kr y) (hlt : ∀ g o, y = some ⟨g, o, none⟩ → g < w.heap.size) => far_move hy hlt h.row hr2 ha2
  refine ⟨vos_like h.vo fun _ g o e hlt => hg.block g hlt (hx va h.vf.1 g o e), mv va h.vf (vos_ltA h.vo hL), grown_cs h.ls hg (hk kl h.k1.1), ⟨ua, uc, na, nc, grown_cs h1 hg (hk kr h.k1.2), bos_like h2 fun g o e hlt => hg.block g hlt (hx ua h4.1 g o e), ints_like h3 fun g o e hlt => hg.block g hlt (hx na h5.1 g o e), mv ua h4 (bos_ltA h2 hW), mv na h5 (ints_ltA h3 hl)⟩, by rw [e1]; exact hr2, Nat.le_trans h.bs hg.size, h.k1, h.k2⟩
end
theorem row_belowA {base : Nat} {sa : Option Addr} {n sc m : Nat} {xs : List Value} {w : World} {lo : Nat} {w1 : World} (hb : Below lo w1 w) (hlo : lo ≤ base) {w' : World} (hg : w.grownBy w' (Value.slice sa n sc).ownBlock) (hr : w.ownsRow base 44 5 (.slice sa n sc) m xs) (hs : lo ≤ w.heap.size) : Below lo w1 w' :=
  hb.grown hg hs fun k ek => by
    obtain ⟨-, -, h5⟩ := own_some hr ek.symm
    omega
end Go.Proofs.Ytnanndmpbecdiaa
