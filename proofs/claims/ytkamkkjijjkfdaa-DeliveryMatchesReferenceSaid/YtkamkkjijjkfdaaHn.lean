/- Delivery: regions with one pivot, for the law of the reference. -/
import Derived.Test.YtkamkkjijjkfdaaIv
import Derived.Test.YtkamkkjijjkfdaaDn
import Derived.Test.YtkamkkjijjkfdaaDr
import Derived.Test.YtkamkkjijjkfdaaDs
import Derived.BigQuiet
import Derived.Deep.CutRange
namespace Go.Proofs.Ytkamkkjijjkfdaa
open Go.RowKit

/-- A block is not that of an address. -/
def nb (x : Option Addr) (k : Nat) : Prop := ∀ g o, x = some ⟨g, o, none⟩ → g ≠ k
def nb2 (x y : Option Addr) : Prop := ∀ g o g' o', x = some ⟨g, o, none⟩ → y = some ⟨g', o', none⟩ → g ≠ g'
/-- The world of the acts: where each part lies. -/
structure WdA (base n : Nat) (pa ta va aa da : Option Addr) (pc tc vc ac dc : Nat) (nx : Int) (P : List Od) (t : Int) (L : List Bool) (f : Int) (V : List Int) (dn : Int) (A D : List Od) (w : World) : Prop where
  bn : base ≤ n
  cs : Cs w n #[.int .i64 nx, .slice pa P.length pc, .int .i64 t, .slice ta 16 tc, .int .i64 f, .slice va 4 vc, .int .i64 dn, .slice aa A.length ac, .slice da D.length dc]
  pp : OdsAt w (.slice pa P.length pc) P
  tt : BosAt w (.slice ta 16 tc) L
  tl : 16 ≤ tc
  vv : IntsAt w (.slice va 4 vc) V
  al : w.ownsRow base 32 4 (.slice aa A.length ac) A.length (ocs A)
  dl : w.ownsRow base 32 4 (.slice da D.length dc) D.length (ocs D)
  np : P ≠ [] → nb pa n
  nt : nb ta n
  nv : nb va n
  na : nb aa n
  nd : nb da n
  ap : P ≠ [] → nb2 pa aa
  at' : nb2 ta aa
  av : nb2 va aa
  dp : P ≠ [] → nb2 pa da
  dt : nb2 ta da
  dv : nb2 va da
  ad : nb2 aa da
theorem WdA.step {base n : Nat} {pa ta va aa da : Option Addr} {pc tc vc ac dc : Nat} {nx : Int} {P : List Od} {t : Int} {L : List Bool} {f : Int} {V : List Int} {dn : Int} {A D : List Od} {w w' : World}
    (h : WdA base n pa ta va aa da pc tc vc ac dc nx P t L f V dn A D w) (hb : Below w.heap.size w w') : WdA base n pa ta va aa da pc tc vc ac dc nx P t L f V dn A D w' :=
  ⟨h.bn, h.cs.step hb, h.pp.step hb, h.tt.step hb, h.tl, h.vv.step hb, row_step h.al hb, row_step h.dl hb, h.np, h.nt, h.nv, h.na, h.nd, h.ap, h.at', h.av, h.dp, h.dt, h.dv, h.ad⟩
theorem grown_set (w : World) (n j : Nat) (x : Value) : w.grownBy (w.setCell ⟨n, j, none⟩ x) (some n) :=
  have b := (Below.refl 0 w).setCell (p := ⟨n, j, none⟩) (Nat.zero_le _) x
  ⟨b.os, b.tape, b.output, b.size, fun k _ hk => Below.heap_setCell w ⟨n, j, none⟩ x k (fun e => hk (by rw [e]))⟩
theorem grown_trans {w w1 w2 : World} {r : Option Nat} (h : w.grownBy w1 r) (k : w1.grownBy w2 r) : w.grownBy w2 r :=
  ⟨k.os.trans h.os, k.tape.trans h.tape, k.output.trans h.output, Nat.le_trans h.size k.size, fun i hi hr => (k.block i (Nat.lt_of_lt_of_le hi h.size) hr).trans (h.block i hi hr)⟩
theorem ods_kept {w w' : World} {a : Option Addr} {n c : Nat} {l : List Od} {r : Option Nat} (h : OdsAt w (.slice a n c) l) (hg : w.grownBy w' r) (hr : l ≠ [] → ∀ g o, a = some ⟨g, o, none⟩ → some g ≠ r) : OdsAt w' (.slice a n c) l := by
  obtain ⟨a1, cap, hv, h1, hm, hc⟩ := h
  refine ⟨a1, cap, hv, h1, hm, fun hl => ?_⟩
  obtain ⟨b1, off, ha, hx⟩ := hc hl
  have hn := hr hl b1 off ((by simp at hv; exact hv.1 : a = a1).trans ha)
  refine ⟨b1, off, ha, fun i x hi => ?_⟩
  obtain ⟨q0, q1, q2, q3⟩ := hx i x hi
  exact ⟨hg.cell q0 hn, hg.cell q1 hn, hg.cell q2 hn, hg.cell q3 hn⟩
theorem bos_kept {w w' : World} {a : Option Addr} {n c : Nat} {l : List Bool} {r : Option Nat} (h : BosAt w (.slice a n c) l) (hg : w.grownBy w' r) (hr : ∀ g o, a = some ⟨g, o, none⟩ → some g ≠ r) : BosAt w' (.slice a n c) l := by
  obtain ⟨a1, cap, hv, hm, hc⟩ := h
  refine ⟨a1, cap, hv, hm, fun hl => ?_⟩
  obtain ⟨b1, off, ha, hx⟩ := hc hl
  have hn := hr b1 off ((by simp at hv; exact hv.1 : a = a1).trans ha)
  exact ⟨b1, off, ha, fun i x hi => hg.cell (hx i x hi) hn⟩
theorem ints_kept {w w' : World} {a : Option Addr} {n c : Nat} {l : List Int} {r : Option Nat} (h : IntsAt w (.slice a n c) l) (hg : w.grownBy w' r) (hr : ∀ g o, a = some ⟨g, o, none⟩ → some g ≠ r) : IntsAt w' (.slice a n c) l := by
  obtain ⟨a1, cap, hv, hm, hc⟩ := h
  refine ⟨a1, cap, hv, hm, fun hl => ?_⟩
  obtain ⟨b1, off, ha, hx⟩ := hc hl
  have hn := hr b1 off ((by simp at hv; exact hv.1 : a = a1).trans ha)
  exact ⟨b1, off, ha, fun i x hi => hg.cell (hx i x hi) hn⟩
theorem row_kept {w w' : World} {base e s n c m : Nat} {a : Option Addr} {xs : List Value} {r : Option Nat} (h : w.ownsRow base e s (.slice a n c) m xs) (hg : w.grownBy w' r) (hr : ∀ g o, a = some ⟨g, o, none⟩ → some g ≠ r) : w'.ownsRow base e s (.slice a n c) m xs := by
  refine h.kept hg ?_
  cases a with
  | none => exact .inl rfl
  | some ad =>
    refine .inr ?_
    rcases h.2 with ⟨e, -⟩ | ⟨g, cap, cur, e, -⟩
    · cases e
    · cases e; exact hr g 0 rfl
theorem nb_some {x : Option Addr} {k : Nat} (h : nb x k) : ∀ g o, x = some ⟨g, o, none⟩ → some g ≠ some k := fun g o e q => h g o e (by simpa using q)
theorem nb2_own {x : Option Addr} {y : Value} {a : Option Addr} {n c : Nat} {w : World} {base e s m : Nat} {xs : List Value} (hy : y = .slice a n c) (hr : w.ownsRow base e s y m xs) (h : nb2 x a) : ∀ g o, x = some ⟨g, o, none⟩ → some g ≠ y.ownBlock := by
  subst hy
  intro g o hx hq
  cases a with
  | none => simp [Value.ownBlock] at hq
  | some ad =>
    rcases hr.2 with ⟨e, -⟩ | ⟨g', cap, cur, e, -⟩
    · cases e
    · cases e
      simp [Value.ownBlock] at hq
      exact h g o g' 0 hx rfl hq
theorem nb_own {y : Value} {a : Option Addr} {n c k : Nat} {w : World} {base e s m : Nat} {xs : List Value} (hy : y = .slice a n c) (hr : w.ownsRow base e s y m xs) (h : nb a k) : some k ≠ y.ownBlock := by
  subst hy
  intro hq
  cases a with
  | none => simp [Value.ownBlock] at hq
  | some ad =>
    rcases hr.2 with ⟨e, -⟩ | ⟨g', cap, cur, e, -⟩
    · cases e
    · cases e
      simp [Value.ownBlock] at hq
      exact h g' 0 rfl hq.symm
/-- A fresh block is none that lay there before. -/
theorem nb_fresh {x : Option Addr} {k N : Nat} (h : ∀ g o, x = some ⟨g, o, none⟩ → N ≤ g) (hk : k < N) : nb x k := fun g o e => by have := h g o e; omega
theorem nb2_fresh {x y : Option Addr} {N : Nat} (h : ∀ g o, x = some ⟨g, o, none⟩ → N ≤ g) (hy : ∀ g o, y = some ⟨g, o, none⟩ → g < N) : nb2 x y := fun g o g' o' e e' => by have := h g o e; have := hy g' o' e'; omega
theorem row_ltN {w : World} {base e s n c m : Nat} {a : Option Addr} {xs : List Value} (h : w.ownsRow base e s (.slice a n c) m xs) {N : Nat} (hN : w.heap.size ≤ N) : ∀ g o, a = some ⟨g, o, none⟩ → g < N := by
  intro g o ha
  subst ha
  rcases h.2 with ⟨e, -⟩ | ⟨g', cap, cur, e, h1, h2, -⟩
  · cases e
  · cases e
    have := (Array.getElem?_eq_some_iff.1 h2).1
    omega
theorem cs_kept {w w' : World} {k : Nat} {vs : Array Value} {r : Option Nat} (h : Cs w k vs) (hg : w.grownBy w' r) (hr : some k ≠ r) : Cs w' k vs := cs_block h (hg.block k h.2.2 hr) hg.size
/-- The receiver is stored. -/
theorem WdA.setr {base n : Nat} {pa ta va aa da ta' va' : Option Addr} {pc tc vc ac dc tc' vc' : Nat} {nx : Int} {P : List Od} {t : Int} {L : List Bool} {f : Int} {V : List Int} {dn : Int} {A D : List Od} {t' f' dn' : Int} {L' : List Bool} {V' : List Int} {w : World}
    (h : WdA base n pa ta va aa da pc tc vc ac dc nx P t L f V dn A D w) (h1 : BosAt w (.slice ta' 16 tc') L') (h2 : 16 ≤ tc') (h3 : IntsAt w (.slice va' 4 vc') V') (n1 : nb ta' n) (n2 : nb va' n) (n3 : nb2 ta' aa) (n4 : nb2 va' aa) (n5 : nb2 ta' da) (n6 : nb2 va' da) :
    WdA base n pa ta' va' aa da pc tc' vc' ac dc nx P t' L' f' V' dn' A D (((((w.setCell ⟨n, 2, none⟩ (.int .i64 t')).setCell ⟨n, 3, none⟩ (.slice ta' 16 tc')).setCell ⟨n, 4, none⟩ (.int .i64 f')).setCell ⟨n, 5, none⟩ (.slice va' 4 vc')).setCell ⟨n, 6, none⟩ (.int .i64 dn')) := by
  have hg := grown_trans (grown_trans (grown_trans (grown_trans (grown_set w n 2 (.int .i64 t')) (grown_set _ n 3 (.slice ta' 16 tc'))) (grown_set _ n 4 (.int .i64 f'))) (grown_set _ n 5 (.slice va' 4 vc'))) (grown_set _ n 6 (.int .i64 dn'))
  exact ⟨h.bn, Cs.set (Cs.set (Cs.set (Cs.set (Cs.set h.cs 2 (by simp) _ rfl) 3 (by simp) _ rfl) 4 (by simp) _ rfl) 5 (by simp) _ rfl) 6 (by simp) _ rfl, ods_kept h.pp hg (fun e => nb_some (h.np e)), bos_kept h1 hg (nb_some n1), h2, ints_kept h3 hg (nb_some n2), row_kept h.al hg (nb_some h.na), row_kept h.dl hg (nb_some h.nd), h.np, n1, n2, h.na, h.nd, h.ap, n3, n4, h.dp, n5, n6, h.ad⟩
/-- The sender is stored. -/
theorem WdA.sets {base n : Nat} {pa ta va aa da pa' : Option Addr} {pc tc vc ac dc pc' : Nat} {nx nx' : Int} {P P' : List Od} {t : Int} {L : List Bool} {f : Int} {V : List Int} {dn : Int} {A D : List Od} {w : World}
    (h : WdA base n pa ta va aa da pc tc vc ac dc nx P t L f V dn A D w) (h1 : OdsAt w (.slice pa' P'.length pc') P') (n1 : P' ≠ [] → nb pa' n) (n3 : P' ≠ [] → nb2 pa' aa) (n5 : P' ≠ [] → nb2 pa' da) :
    WdA base n pa' ta va aa da pc' tc vc ac dc nx' P' t L f V dn A D ((w.setCell ⟨n, 0, none⟩ (.int .i64 nx')).setCell ⟨n, 1, none⟩ (.slice pa' P'.length pc')) := by
  have hg := grown_trans (grown_set w n 0 (.int .i64 nx')) (grown_set _ n 1 (.slice pa' P'.length pc'))
  exact ⟨h.bn, Cs.set (Cs.set h.cs 0 (by simp) _ rfl) 1 (by simp) _ rfl, ods_kept h1 hg (fun e => nb_some (n1 e)), bos_kept h.tt hg (nb_some h.nt), h.tl, ints_kept h.vv hg (nb_some h.nv), row_kept h.al hg (nb_some h.na), row_kept h.dl hg (nb_some h.nd), n1, h.nt, h.nv, h.na, h.nd, n3, h.at', h.av, n5, h.dt, h.dv, h.ad⟩
/-- The world of the acts. -/
def WdP (base n : Nat) (nx : Int) (P : List Od) (t : Int) (L : List Bool) (f : Int) (V : List Int) (dn : Int) (A D : List Od) (w : World) : Prop :=
  ∃ (pa ta va aa da : Option Addr) (pc tc vc ac dc : Nat), WdA base n pa ta va aa da pc tc vc ac dc nx P t L f V dn A D w
theorem bos_ltN {w : World} {a : Option Addr} {n c : Nat} {l : List Bool} (h : BosAt w (.slice a n c) l) (hn : 0 < n) : ∀ g o, a = some ⟨g, o, none⟩ → g < w.heap.size := by
  obtain ⟨a1, cap, hv, hm, hc⟩ := h
  obtain ⟨rfl, rfl, -⟩ : a = a1 ∧ n = l.length ∧ c = cap := by simpa using hv
  obtain ⟨b1, off, rfl, hx⟩ := hc (by intro e; rw [e] at hn; simp at hn)
  intro g o e
  cases e
  exact World.block_lt_of_cell? _ _ (hx 0 _ (List.getElem?_eq_getElem hn))
theorem ints_ltN {w : World} {a : Option Addr} {n c : Nat} {l : List Int} (h : IntsAt w (.slice a n c) l) (hn : 0 < n) : ∀ g o, a = some ⟨g, o, none⟩ → g < w.heap.size := by
  obtain ⟨a1, cap, hv, hm, hc⟩ := h
  obtain ⟨rfl, rfl, -⟩ : a = a1 ∧ n = l.length ∧ c = cap := by simpa using hv
  obtain ⟨b1, off, rfl, hx⟩ := hc (by intro e; rw [e] at hn; simp at hn)
  intro g o e
  cases e
  exact World.block_lt_of_cell? _ _ (hx 0 _ (List.getElem?_eq_getElem hn))
theorem ods_ltN {w : World} {a : Option Addr} {n c : Nat} {l : List Od} (h : OdsAt w (.slice a n c) l) (hn : l ≠ []) : ∀ g o, a = some ⟨g, o, none⟩ → g < w.heap.size := by
  obtain ⟨a1, cap, hv, h1, hm, hc⟩ := h
  obtain ⟨rfl, rfl, -⟩ : a = a1 ∧ n = l.length ∧ c = cap := by simpa using hv
  obtain ⟨b1, off, rfl, hx⟩ := hc hn
  intro g o e
  cases e
  have h0 : 0 < l.length := List.length_pos_iff.2 hn
  exact World.block_lt_of_cell? _ _ (hx 0 _ (List.getElem?_eq_getElem h0)).1
/-- What an append leaves of a row's block. -/
def Apd (w : World) (y y' : Value) : Prop := y'.ownBlock = y.ownBlock ∨ ∀ k, y'.ownBlock = some k → w.heap.size ≤ k
theorem Apd.nb {w w1 : World} {base e s n c m n' c' k : Nat} {a a' : Option Addr} {xs : List Value} (h : Apd w (.slice a n c) (.slice a' n' c')) (hr : w1.ownsRow base e s (.slice a n c) m xs) (hn : nb a k) (hk : k < w.heap.size) : nb a' k := by
  intro g o e
  subst e
  rcases h with q | q
  · have h1 := nb_own (k := k) rfl hr hn
    rw [← q] at h1
    exact fun e => h1 (by rw [e]; rfl)
  · have h1 := q g rfl
    omega
theorem Apd.nb2 {w w1 : World} {base e s n c m n' c' : Nat} {x a a' : Option Addr} {xs : List Value} (h : Apd w (.slice a n c) (.slice a' n' c')) (hr : w1.ownsRow base e s (.slice a n c) m xs) (hx : nb2 x a) (hl : ∀ g o, x = some ⟨g, o, none⟩ → g < w.heap.size) : nb2 x a' := by
  intro g o g' o' e e'
  subst e'
  rcases h with q | q
  · have h1 := nb2_own rfl hr hx g o e
    rw [← q] at h1
    exact fun e => h1 (by rw [e]; rfl)
  · have h1 := q g' rfl
    have h2 := hl g o e
    omega
theorem nb2_symm {x y : Option Addr} (h : nb2 x y) : nb2 y x := fun g o g' o' e e' q => h g' o' g o e' e q.symm
/-- An append to 'done', stored. -/
theorem WdA.app {base n : Nat} {pa ta va aa da : Option Addr} {pc tc vc ac dc : Nat} {nx : Int} {P : List Od} {t : Int} {L : List Bool} {f : Int} {V : List Int} {dn : Int} {A D D' : List Od} {w w' : World} {da' : Option Addr} {dc' : Nat}
    (h : WdA base n pa ta va aa da pc tc vc ac dc nx P t L f V dn A D w) (hg : w.grownBy w' (Value.slice da D.length dc).ownBlock) (hrow : w'.ownsRow base 32 4 (.slice da' D'.length dc') D'.length (ocs D'))
    (hown : Apd w (.slice da D.length dc) (.slice da' D'.length dc')) :
    WdA base n pa ta va aa da' pc tc vc ac dc' nx P t L f V dn A D' (w'.setCell ⟨n, 8, none⟩ (.slice da' D'.length dc')) := by
  have hs := grown_set w' n 8 (.slice da' D'.length dc')
  have hn : nb da' n := hown.nb h.dl h.nd h.cs.2.2
  have k1 : ∀ x, nb2 x da → ∀ g o, x = some ⟨g, o, none⟩ → some g ≠ (Value.slice da D.length dc).ownBlock := fun x hx => nb2_own rfl h.dl hx
  exact ⟨h.bn, Cs.set (cs_kept h.cs hg (nb_own rfl h.dl h.nd)) 8 (by simp) _ rfl, ods_kept (ods_kept h.pp hg (fun e => k1 _ (h.dp e))) hs (fun e => nb_some (h.np e)), bos_kept (bos_kept h.tt hg (k1 _ h.dt)) hs (nb_some h.nt), h.tl, ints_kept (ints_kept h.vv hg (k1 _ h.dv)) hs (nb_some h.nv),
    row_kept (row_kept h.al hg (k1 _ h.ad)) hs (nb_some h.na), row_kept hrow hs (nb_some hn), h.np, h.nt, h.nv, h.na, hn, h.ap, h.at', h.av, fun e => hown.nb2 h.dl (h.dp e) (ods_ltN h.pp e), hown.nb2 h.dl h.dt (bos_ltN h.tt (by decide)), hown.nb2 h.dl h.dv (ints_ltN h.vv (by decide)), hown.nb2 h.dl h.ad (row_ltN h.al (Nat.le_refl _))⟩
/-- An append to 'all', stored. -/
theorem WdA.appA {base n : Nat} {pa ta va aa da : Option Addr} {pc tc vc ac dc : Nat} {nx : Int} {P : List Od} {t : Int} {L : List Bool} {f : Int} {V : List Int} {dn : Int} {A A' D : List Od} {w w' : World} {aa' : Option Addr} {ac' : Nat}
    (h : WdA base n pa ta va aa da pc tc vc ac dc nx P t L f V dn A D w) (hg : w.grownBy w' (Value.slice aa A.length ac).ownBlock) (hrow : w'.ownsRow base 32 4 (.slice aa' A'.length ac') A'.length (ocs A'))
    (hown : Apd w (.slice aa A.length ac) (.slice aa' A'.length ac')) :
    WdA base n pa ta va aa' da pc tc vc ac' dc nx P t L f V dn A' D (w'.setCell ⟨n, 7, none⟩ (.slice aa' A'.length ac')) := by
  have hs := grown_set w' n 7 (.slice aa' A'.length ac')
  have hn : nb aa' n := hown.nb h.al h.na h.cs.2.2
  have k1 : ∀ x, nb2 x aa → ∀ g o, x = some ⟨g, o, none⟩ → some g ≠ (Value.slice aa A.length ac).ownBlock := fun x hx => nb2_own rfl h.al hx
  exact ⟨h.bn, Cs.set (cs_kept h.cs hg (nb_own rfl h.al h.na)) 7 (by simp) _ rfl, ods_kept (ods_kept h.pp hg (fun e => k1 _ (h.ap e))) hs (fun e => nb_some (h.np e)), bos_kept (bos_kept h.tt hg (k1 _ h.at')) hs (nb_some h.nt), h.tl, ints_kept (ints_kept h.vv hg (k1 _ h.av)) hs (nb_some h.nv),
    row_kept hrow hs (nb_some hn), row_kept (row_kept h.dl hg (k1 _ (nb2_symm h.ad))) hs (nb_some h.nd), h.np, h.nt, h.nv, hn, h.nd, fun e => hown.nb2 h.al (h.ap e) (ods_ltN h.pp e), hown.nb2 h.al h.at' (bos_ltN h.tt (by decide)), hown.nb2 h.al h.av (ints_ltN h.vv (by decide)), h.dp, h.dt, h.dv, nb2_symm (hown.nb2 h.al (nb2_symm h.ad) (row_ltN h.dl (Nat.le_refl _)))⟩

/-- A region with one pivot: which facts hold until it, and behind it; 'ed p q': q comes ahead of p. -/
def NS (lit : (Nat → Value) → Act) (s : Nat) (ed : Nat → Nat → Bool) (G : Bool → Nat → Value → World → Prop) (B : Bool → World → Prop) (bf : Nat → Bool) (ac : Act) (wv : World) : Prop :=
  ∃ vs, ac = lit vs ∧ (∀ p q, ed p q = true → bf p = true → bf q = true) ∧ B (bf s) wv ∧ ∀ i, bf i = true → G (bf s) i (vs i) wv
section
variable {lit : (Nat → Value) → Act} {s : Nat} {ed : Nat → Nat → Bool} {G : Bool → Nat → Value → World → Prop} {B : Bool → World → Prop}
theorem up_mono {bf : Nat → Bool} (i : Nat) {q : Nat} (h : bf q = true) : up bf i q = true := by unfold up; rw [h]; simp
theorem up_closed {bf : Nat → Bool} {i : Nat} (k : ∀ p q, ed p q = true → bf p = true → bf q = true) (ha : ∀ q, ed i q = true → bf q = true) : ∀ p q, ed p q = true → up bf i p = true → up bf i q = true := by
  intro p q he hp
  by_cases e : p = i
  · subst e; exact up_mono _ (ha q he)
  · rw [up_ne _ _ _ e] at hp; exact up_mono _ (k p q he hp)
theorem NS.start {ac : Act} {wv : World} (vs : Nat → Value) (hac : ac = lit vs) (hb : B false wv) : NS lit s ed G B (fun _ => false) ac wv :=
  ⟨vs, hac, fun _ _ _ h => (by cases h), hb, fun i h => (by cases h)⟩
theorem NS.next {bf : Nat → Bool} {wv : World} {vs : Nat → Value} (i : Nat) (hi : s ≠ i) (ha : ∀ q, ed i q = true → bf q = true) {x : Value} {w' : World} {ac' : Act} (hac : ac' = lit (upv vs i x))
    (k : (∀ p q, ed p q = true → bf p = true → bf q = true) ∧ ∀ i, bf i = true → G (bf s) i (vs i) wv) (hb : B (bf s) w') (hs : ∀ k, bf k = true → G (bf s) k (vs k) wv → G (bf s) k (vs k) w') (hx : G (bf s) i x w') : NS lit s ed G B (up bf i) ac' w' := by
  refine ⟨upv vs i x, hac, up_closed k.1 ha, by rw [up_ne _ _ _ hi]; exact hb, fun j hu => ?_⟩
  rw [up_ne _ _ _ hi]
  by_cases e : j = i
  · subst e; rw [upv_same]; exact hx
  · rw [up_ne _ _ _ e] at hu; rw [upv_ne _ _ _ _ e]; exact hs _ hu (k.2 j hu)
theorem NS.put {bf : Nat → Bool} {vs : Nat → Value} {w' : World} {ac' : Act} (hac : ac' = lit vs) (hn : (∀ p q, ed p q = true → bf p = true → bf q = true) ∧ ∀ q, ed s q = true → bf q = true) (hb : B true w') (hs : ∀ k, k ≠ s → bf k = true → G true k (vs k) w') (hx : ∀ v, G true s v w') : NS lit s ed G B (up bf s) ac' w' := by
  refine ⟨vs, hac, up_closed hn.1 hn.2, by rw [up_same]; exact hb, fun j hu => ?_⟩
  rw [up_same]
  by_cases e : j = s
  · subst e; exact hx _
  · rw [up_ne _ _ _ e] at hu; exact hs j e hu
theorem NS.piv {bf : Nat → Bool} {vs : Nat → Value} {x : Value} {w' : World} {ac' : Act} (hac : ac' = lit (upv vs s x)) (hn : (∀ p q, ed p q = true → bf p = true → bf q = true) ∧ ∀ q, ed s q = true → bf q = true) (hb : B true w') (hs : ∀ k, k ≠ s → bf k = true → G true k (vs k) w') (hx : G true s x w') : NS lit s ed G B (up bf s) ac' w' := by
  refine ⟨upv vs s x, hac, up_closed hn.1 hn.2, by rw [up_same]; exact hb, fun j hu => ?_⟩
  rw [up_same]
  by_cases e : j = s
  · subst e; rw [upv_same]; exact hx
  · rw [up_ne _ _ _ e] at hu; rw [upv_ne _ _ _ _ e]; exact hs j e hu
end
theorem keepB {base : Nat} {w w1 w2 : World} (h : Below base w w1) (b : Below w1.heap.size w1 w2) (hl : base ≤ w1.heap.size) : Below base w w2 := h.trans (b.mono hl)
/-- What 'Receive' returns: its two lists. -/
def RvS (N : Nat) (L : List Bool) (V : List Int) (c1 d1 : Nat) (a1 v1 : Option Addr) (w : World) : Prop :=
  16 ≤ c1 ∧ BosAt w (.slice a1 16 c1) L ∧ IntsAt w (.slice v1 4 d1) V ∧ (∀ g o, a1 = some ⟨g, o, none⟩ → N ≤ g) ∧ ∀ g o, v1 = some ⟨g, o, none⟩ → N ≤ g
theorem RvS.step {N c1 d1 : Nat} {L : List Bool} {V : List Int} {a1 v1 : Option Addr} {w w' : World} (h : RvS N L V c1 d1 a1 v1 w) (b : Below w.heap.size w w') : RvS N L V c1 d1 a1 v1 w' :=
  ⟨h.1, h.2.1.step b, h.2.2.1.step b, h.2.2.2⟩
def Z5 : Array Value := #[.int .i64 0, .slice none 0 0, .int .i64 0, .slice none 0 0, .int .i64 0]
theorem box_bos {w : World} {k c : Nat} {t : TypeId} {a : Option Addr} {L : List Bool} (hz : BoxN w k Z5 t) (h : BosAt w (.slice a 16 c) L) : nb a k := by
  obtain ⟨a1, cap, hv, hm, hc⟩ := h
  obtain ⟨rfl, hl, -⟩ : a = a1 ∧ 16 = L.length ∧ c = cap := by simpa using hv
  obtain ⟨b1, off, rfl, hx⟩ := hc (by intro e; rw [e] at hl; simp at hl)
  intro g o e
  cases e
  rintro rfl
  have h0 := hx 0 _ (List.getElem?_eq_getElem (by omega))
  have hz' : w.heap[b1]? = some (.cells Z5 t (0, 0)) := hz
  rcases off with _ | _ | _ | _ | _ | off <;> simp [World.cell?, hz', Z5] at h0
theorem box_ints {w : World} {k c : Nat} {t : TypeId} {a : Option Addr} {L : List Int} (hz : BoxN w k Z5 t) (h : IntsAt w (.slice a 4 c) L) : nb a k := by
  obtain ⟨a1, cap, hv, hm, hc⟩ := h
  obtain ⟨rfl, hl, -⟩ : a = a1 ∧ 4 = L.length ∧ c = cap := by simpa using hv
  obtain ⟨b1, off, rfl, hx⟩ := hc (by intro e; rw [e] at hl; simp at hl)
  intro g o e
  cases e
  rintro rfl
  have h0 := hx 0 _ (List.getElem?_eq_getElem (by omega))
  have h1 := hx 1 _ (List.getElem?_eq_getElem (by omega))
  have hz' : w.heap[b1]? = some (.cells Z5 t (0, 0)) := hz
  rcases off with _ | _ | _ | _ | _ | off <;> simp [World.cell?, hz', Z5] at h0 h1
/-- The receiver is laid into its box. -/
def put5 (w : World) (k : Nat) (T F D : Int) (c1 d1 : Nat) (a1 v1 : Option Addr) : World :=
  ((((w.setCell ⟨k, 0, none⟩ (.int .i64 T)).setCell ⟨k, 1, none⟩ (.slice a1 16 c1)).setCell ⟨k, 2, none⟩ (.int .i64 F)).setCell ⟨k, 3, none⟩ (.slice v1 4 d1)).setCell ⟨k, 4, none⟩ (.int .i64 D)
theorem put5_ok {w : World} {k N c1 d1 : Nat} {t : TypeId} {a1 v1 : Option Addr} {L : List Bool} {V : List Int} (T F D : Int) (hz : BoxN w k Z5 t) (hr : RvS N L V c1 d1 a1 v1 w) (hk : N ≤ k) :
    Cs (put5 w k T F D c1 d1 a1 v1) k #[.int .i64 T, .slice a1 16 c1, .int .i64 F, .slice v1 4 d1, .int .i64 D] ∧ RvS N L V c1 d1 a1 v1 (put5 w k T F D c1 d1 a1 v1) ∧ Below N w (put5 w k T F D c1 d1 a1 v1) := by
  have hg := grown_trans (grown_trans (grown_trans (grown_trans (grown_set w k 0 (.int .i64 T)) (grown_set _ k 1 (.slice a1 16 c1))) (grown_set _ k 2 (.int .i64 F))) (grown_set _ k 3 (.slice v1 4 d1))) (grown_set _ k 4 (.int .i64 D))
  refine ⟨Cs.set (Cs.set (Cs.set (Cs.set (Cs.set (Cs.of_heap hz) 0 (by simp [Z5]) _ rfl) 1 (by simp [Z5]) _ rfl) 2 (by simp [Z5]) _ rfl) 3 (by simp [Z5]) _ rfl) 4 (by simp [Z5]) _ rfl, ⟨hr.1, bos_kept hr.2.1 hg (nb_some (box_bos hz hr.2.1)), ints_kept hr.2.2.1 hg (nb_some (box_ints hz hr.2.2.1)), hr.2.2.2⟩, ?_⟩
  exact (((((Below.refl N w).setCell (p := ⟨k, 0, none⟩) hk _).setCell (p := ⟨k, 1, none⟩) hk _).setCell (p := ⟨k, 2, none⟩) hk _).setCell (p := ⟨k, 3, none⟩) hk _).setCell (p := ⟨k, 4, none⟩) hk _
/-- The values of the region that receives. -/
def Qvt (N : Nat) (T : Int) (L : List Bool) (F : Int) (V : List Int) (D : Int) (ok : Bool) (er : Int) (b : Bool) (v : Value) (w : World) : Prop :=
  ∃ (c1 d1 : Nat) (a1 v1 : Option Addr), v = .tuple #[.agg #[.int .i64 T, .slice a1 16 c1, .int .i64 F, .slice v1 4 d1, .int .i64 D], .bool ok, .int .i64 er] ∧ (b = false → RvS N L V c1 d1 a1 v1 w)
theorem Qvt.step {N : Nat} {T : Int} {L : List Bool} {F : Int} {V : List Int} {D : Int} {ok : Bool} {er : Int} {b : Bool} {v : Value} {w w' : World} (h : Qvt N T L F V D ok er b v w) (hb : Below w.heap.size w w') : Qvt N T L F V D ok er b v w' := by
  obtain ⟨c1, d1, a1, v1, e, h⟩ := h
  exact ⟨c1, d1, a1, v1, e, fun q => (h q).step hb⟩
theorem Qvt.put {N : Nat} {T : Int} {L : List Bool} {F : Int} {V : List Int} {D : Int} {ok : Bool} {er : Int} {b : Bool} {v : Value} {w : World} (h : Qvt N T L F V D ok er b v w) (w' : World) : Qvt N T L F V D ok er true v w' := by
  obtain ⟨c1, d1, a1, v1, e, h⟩ := h
  exact ⟨c1, d1, a1, v1, e, fun q => by cases q⟩
def Qva (N : Nat) (T : Int) (L : List Bool) (F : Int) (V : List Int) (D : Int) (b : Bool) (v : Value) (w : World) : Prop :=
  ∃ (c1 d1 : Nat) (a1 v1 : Option Addr), v = .agg #[.int .i64 T, .slice a1 16 c1, .int .i64 F, .slice v1 4 d1, .int .i64 D] ∧ (b = false → RvS N L V c1 d1 a1 v1 w)
theorem Qva.step {N : Nat} {T : Int} {L : List Bool} {F : Int} {V : List Int} {D : Int} {b : Bool} {v : Value} {w w' : World} (h : Qva N T L F V D b v w) (hb : Below w.heap.size w w') : Qva N T L F V D b v w' := by
  obtain ⟨c1, d1, a1, v1, e, h⟩ := h
  exact ⟨c1, d1, a1, v1, e, fun q => (h q).step hb⟩
theorem Qva.put {N : Nat} {T : Int} {L : List Bool} {F : Int} {V : List Int} {D : Int} {b : Bool} {v : Value} {w : World} (h : Qva N T L F V D b v w) (w' : World) : Qva N T L F V D true v w' := by
  obtain ⟨c1, d1, a1, v1, e, h⟩ := h
  exact ⟨c1, d1, a1, v1, e, fun q => by cases q⟩
def Qvk (N : Nat) (T : Int) (L : List Bool) (F : Int) (V : List Int) (D : Int) (b : Bool) (v : Value) (w : World) : Prop :=
  ∃ k : Nat, v = .pointer (some ⟨k, 0, none⟩) ∧ N ≤ k ∧ (b = false → BoxN w k Z5 30) ∧ (b = true → ∃ (c1 d1 : Nat) (a1 v1 : Option Addr), Cs w k #[.int .i64 T, .slice a1 16 c1, .int .i64 F, .slice v1 4 d1, .int .i64 D] ∧ RvS N L V c1 d1 a1 v1 w)
theorem Qvk.step {N : Nat} {T : Int} {L : List Bool} {F : Int} {V : List Int} {D : Int} {b : Bool} {v : Value} {w w' : World} (h : Qvk N T L F V D b v w) (hb : Below w.heap.size w w') : Qvk N T L F V D b v w' := by
  obtain ⟨k, e, hk, h1, h2⟩ := h
  refine ⟨k, e, hk, fun q => (h1 q).step hb, fun q => ?_⟩
  obtain ⟨c1, d1, a1, v1, h3, h4⟩ := h2 q
  exact ⟨c1, d1, a1, v1, h3.step hb, h4.step hb⟩
/-- 'Receive', with the lengths written out. -/
theorem rcv_w {t : Int} {L : List Bool} {f : Int} {l : List Int} {dn a b c d T : Int} {A : List Bool} {F : Int} {V : List Int} {D : Int} {ok : Bool} {er : Int} (h : RW t L f l dn a b c d T A F V D ok er) (hA : A.length = 16) (s v : Value) (w : World) (hs : BosAt w s L) (hv : IntsAt w v l) (hL : L.length = 16) (hl : l.length = 4) :
    Calls Try.prog 13 #[.agg #[.int .i64 t, s, .int .i64 f, v, .int .i64 dn], .agg #[.int .i64 a, .int .i64 b, .int .i64 c, .int .i64 d]] w fun e w' => (∃ (c1 d1 : Nat) (a1 v1 : Option Addr), e = .returned (.tuple #[.agg #[.int .i64 T, .slice a1 16 c1, .int .i64 F, .slice v1 4 d1, .int .i64 D], .bool ok, .int .i64 er]) ∧ RvS w.heap.size A V c1 d1 a1 v1 w') ∧ Below w.heap.size w w' := by
  refine (receive_is h s v w hs hv (by omega) (by omega)).mono ?_
  rintro e w' ⟨cc, vc, aa, va, rfl, q0, q1, q2, q3, q4, q5⟩
  rw [hl] at q2 ⊢
  rw [hA] at q0 q1 ⊢
  exact ⟨⟨cc, vc, aa, va, rfl, q0, q1, q2, q4, q5⟩, q3⟩
theorem samer_w (T F D : Int) (A : List Bool) (V : List Int) (hA : A.length = 16) (xa xv ya yv : Option Addr) (xc xd yc yd : Nat) (w : World) (h1 : BosAt w (.slice xa 16 xc) A) (h2 : IntsAt w (.slice xv 4 xd) V) (h3 : BosAt w (.slice ya 16 yc) A) (h4 : IntsAt w (.slice yv 4 yd) V) :
    Calls Try.prog 16 #[.agg #[.int .i64 T, .slice xa 16 xc, .int .i64 F, .slice xv 4 xd, .int .i64 D], .agg #[.int .i64 T, .slice ya 16 yc, .int .i64 F, .slice yv 4 yd, .int .i64 D]] w fun e w' => e = .returned (.bool true) ∧ Below w.heap.size w w' := by
  have h := samer_any T F D A V 4 xa xv ya yv xc xd yc yd w
  rw [hA] at h
  exact h h1 h2 h3 h4
theorem bos_len {w : World} {a : Option Addr} {n c : Nat} {l : List Bool} (h : BosAt w (.slice a n c) l) : l.length = n := by
  obtain ⟨a1, cap, hv, -⟩ := h
  simp at hv; exact hv.2.1.symm
theorem ints_len {w : World} {a : Option Addr} {n c : Nat} {l : List Int} (h : IntsAt w (.slice a n c) l) : l.length = n := by
  obtain ⟨a1, cap, hv, -⟩ := h
  simp at hv; exact hv.2.1.symm
theorem WdA.le {base n : Nat} {pa ta va aa da : Option Addr} {pc tc vc ac dc : Nat} {nx : Int} {P : List Od} {t : Int} {L : List Bool} {f : Int} {V : List Int} {dn : Int} {A D : List Od} {w : World} (h : WdA base n pa ta va aa da pc tc vc ac dc nx P t L f V dn A D w) : base ≤ w.heap.size := Nat.le_of_lt (Nat.lt_of_le_of_lt h.bn h.cs.2.2)
/-- One order is appended to a row of one's own. -/
theorem app_row {w : World} {base dc g : Nat} {da : Option Addr} {D D' : List Od} {x : Od} (h : w.ownsRow base 32 4 (.slice da D.length dc) D.length (ocs D)) (hb : BoxN w g #[.int .i64 x.a, .int .i64 x.b, .int .i64 x.c, .int .i64 x.d] 32) (hD : D.length ≤ 100000) (hD' : D' = D ++ [x]) (hl : base ≤ w.heap.size) :
    ∃ (da' : Option Addr) (dc' : Nat) (w' : World), (Builtin.append_ #[22, 22] 22 #[.slice da D.length dc, .slice (some ⟨g, 0, none⟩) 1 1]).run Try.prog w = .ok (.slice da' D'.length dc') w' ∧ w.grownBy w' (Value.slice da D.length dc).ownBlock ∧ w'.ownsRow base 32 4 (.slice da' D'.length dc') D'.length (ocs D') ∧ Apd w (.slice da D.length dc) (.slice da' D'.length dc') := by
  have nx7 : ∀ j u, ([.int .i64 x.a, .int .i64 x.b, .int .i64 x.c, .int .i64 x.d] : List Value)[j]? = some u → w.cell? ((⟨g, 0, none⟩ : Addr).add j) = some u := World.news_of_block hb
  obtain ⟨i0, hi, hz0, hz1, hz2⟩ := info_parts od_info
  obtain ⟨v8, w8, hr8, ho8, hg8, -, ha8⟩ := run_append_own_at (P := Try.prog) w base 22 22 32 i0 _ 4 32 Try.underlying22 hi hz0 hz1 hz2 rfl (by decide) (.slice da D.length dc) D.length (ocs D) h ⟨g, 0, none⟩ 1 1 [.int .i64 x.a, .int .i64 x.b, .int .i64 x.c, .int .i64 x.d] rfl nx7 (by simp [Value.oneCell']) (by unfold maxLen; omega) (by omega) hl
  have e1 : D'.length = D.length + 1 := by rw [hD']; simp
  obtain ⟨da', dc', rfl⟩ := row_slice ho8
  refine ⟨da', dc', w8, by rw [e1]; exact hr8, hg8, ?_, ?_⟩
  · rw [e1, hD', ocs_app, ocs_one]; exact ho8
  · rw [e1]
    rcases ha8 with q | q
    · exact .inl q
    · exact .inr fun k hk => by rw [q] at hk; cases hk; exact Nat.le_refl _
/-- The row that was appended to, stored again. -/
theorem WdA.re8 {base n : Nat} {pa ta va aa da : Option Addr} {pc tc vc ac dc : Nat} {nx : Int} {P : List Od} {t : Int} {L : List Bool} {f : Int} {V : List Int} {dn : Int} {A D : List Od} {w : World} (h : WdA base n pa ta va aa da pc tc vc ac dc nx P t L f V dn A D w) : WdA base n pa ta va aa da pc tc vc ac dc nx P t L f V dn A D (w.setCell ⟨n, 8, none⟩ (.slice da D.length dc)) := by
  have hg := grown_set w n 8 (.slice da D.length dc)
  exact ⟨h.bn, Cs.set h.cs 8 (by simp) _ rfl, ods_kept h.pp hg (fun e => nb_some (h.np e)), bos_kept h.tt hg (nb_some h.nt), h.tl, ints_kept h.vv hg (nb_some h.nv), row_kept h.al hg (nb_some h.na), row_kept h.dl hg (nb_some h.nd), h.np, h.nt, h.nv, h.na, h.nd, h.ap, h.at', h.av, h.dp, h.dt, h.dv, h.ad⟩
theorem WdA.re7 {base n : Nat} {pa ta va aa da : Option Addr} {pc tc vc ac dc : Nat} {nx : Int} {P : List Od} {t : Int} {L : List Bool} {f : Int} {V : List Int} {dn : Int} {A D : List Od} {w : World} (h : WdA base n pa ta va aa da pc tc vc ac dc nx P t L f V dn A D w) : WdA base n pa ta va aa da pc tc vc ac dc nx P t L f V dn A D (w.setCell ⟨n, 7, none⟩ (.slice aa A.length ac)) := by
  have hg := grown_set w n 7 (.slice aa A.length ac)
  exact ⟨h.bn, Cs.set h.cs 7 (by simp) _ rfl, ods_kept h.pp hg (fun e => nb_some (h.np e)), bos_kept h.tt hg (nb_some h.nt), h.tl, ints_kept h.vv hg (nb_some h.nv), row_kept h.al hg (nb_some h.na), row_kept h.dl hg (nb_some h.nd), h.np, h.nt, h.nv, h.na, h.nd, h.ap, h.at', h.av, h.dp, h.dt, h.dv, h.ad⟩
/-- A box of one order, and the sender that 'Confirm' gives. -/
def Qbx (x : Od) (b : Bool) (v : Value) (w : World) : Prop := ∃ g : Nat, v = .slice (some ⟨g, 0, none⟩) 1 1 ∧ (b = false → BoxN w g #[.int .i64 x.a, .int .i64 x.b, .int .i64 x.c, .int .i64 x.d] 32)
theorem Qbx.step {x : Od} {b : Bool} {v : Value} {w w' : World} (h : Qbx x b v w) (hb : Below w.heap.size w w') : Qbx x b v w' := by
  obtain ⟨g, e, h⟩ := h
  exact ⟨g, e, fun q => (h q).step hb⟩
theorem Qbx.put {x : Od} {b : Bool} {v : Value} {w : World} (h : Qbx x b v w) (w' : World) : Qbx x true v w' := by
  obtain ⟨g, e, h⟩ := h
  exact ⟨g, e, fun q => by cases q⟩
def Qsd (N : Nat) (nx : Int) (P : List Od) (b : Bool) (v : Value) (w : World) : Prop := ∃ (pc' : Nat) (pa' : Option Addr), v = .agg #[.int .i64 nx, .slice pa' P.length pc'] ∧ (b = false → OdsAt w (.slice pa' P.length pc') P ∧ ∀ g o, pa' = some ⟨g, o, none⟩ → N ≤ g)
theorem Qsd.step {N : Nat} {nx : Int} {P : List Od} {b : Bool} {v : Value} {w w' : World} (h : Qsd N nx P b v w) (hb : Below w.heap.size w w') : Qsd N nx P b v w' := by
  obtain ⟨c, a, e, h⟩ := h
  exact ⟨c, a, e, fun q => ⟨(h q).1.step hb, (h q).2⟩⟩
theorem Qsd.put {N : Nat} {nx : Int} {P : List Od} {b : Bool} {v : Value} {w : World} (h : Qsd N nx P b v w) (w' : World) : Qsd N nx P true v w' := by
  obtain ⟨c, a, e, h⟩ := h
  exact ⟨c, a, e, fun q => by cases q⟩
/-- What an order's coming spares. -/
def FB (base n : Nat) (da : Option Addr) (w cur : World) : Prop := Below base w cur ∧ ∀ q, q < w.heap.size → q ≠ n → nb da q → cur.heap[q]? = w.heap[q]?
theorem FB.refl (base n : Nat) (da : Option Addr) (w : World) : FB base n da w w := ⟨Below.refl _ _, fun _ _ _ _ => rfl⟩
theorem FB.step {base n : Nat} {da : Option Addr} {w w1 w2 : World} (h : FB base n da w w1) (b : Below w1.heap.size w1 w2) (hl : base ≤ w1.heap.size) : FB base n da w w2 :=
  ⟨h.1.trans (b.mono hl), fun q h1 h2 h3 => (b.block q (Nat.lt_of_lt_of_le h1 h.1.size)).trans (h.2 q h1 h2 h3)⟩
theorem FB.setN {base n : Nat} {da : Option Addr} {w w1 : World} (h : FB base n da w w1) (hbn : base ≤ n) (j : Nat) (v : Value) : FB base n da w (w1.setCell ⟨n, j, none⟩ v) :=
  ⟨h.1.setCell (p := ⟨n, j, none⟩) hbn v, fun q h1 h2 h3 => (Below.heap_setCell w1 ⟨n, j, none⟩ v q h2).trans (h.2 q h1 h2 h3)⟩
theorem FB.grown {base n m c k e s : Nat} {da : Option Addr} {w w1 w2 : World} {xs : List Value} (h : FB base n da w w1) (hg : w1.grownBy w2 (Value.slice da m c).ownBlock) (hr : w1.ownsRow base e s (.slice da m c) k xs) (hl : base ≤ w1.heap.size) : FB base n da w w2 :=
  ⟨h.1.grown hg hl (fun _ ek => row_own hr ek), fun q h1 h2 h3 => (hg.block q (Nat.lt_of_lt_of_le h1 h.1.size) (nb_own rfl hr h3)).trans (h.2 q h1 h2 h3)⟩
theorem FB.tr {base n : Nat} {da : Option Addr} {w w1 w2 : World} (h : FB base n da w w1) (k : FB base n da w1 w2) : FB base n da w w2 :=
  ⟨h.1.trans k.1, fun q h1 h2 h3 => (k.2 q (Nat.lt_of_lt_of_le h1 h.1.size) h2 h3).trans (h.2 q h1 h2 h3)⟩
/-- The world behind an order's coming. -/
def WdQ (base n : Nat) (aa da : Option Addr) (N : Nat) (nx : Int) (P : List Od) (t : Int) (L : List Bool) (f : Int) (V : List Int) (dn : Int) (A D : List Od) (w : World) : Prop :=
  ∃ (pa ta va da' : Option Addr) (pc tc vc ac dc : Nat), WdA base n pa ta va aa da' pc tc vc ac dc nx P t L f V dn A D w ∧ ∀ q, q < N → nb da q → nb da' q
theorem WdQ.p {base n : Nat} {aa da : Option Addr} {N : Nat} {nx : Int} {P : List Od} {t : Int} {L : List Bool} {f : Int} {V : List Int} {dn : Int} {A D : List Od} {w : World} (h : WdQ base n aa da N nx P t L f V dn A D w) : WdP base n nx P t L f V dn A D w := by
  obtain ⟨pa, ta, va, da', pc, tc, vc, ac, dc, h, -⟩ := h
  exact ⟨_, _, _, _, _, _, _, _, _, _, h⟩

/-- What 'Send' returns, and its box. -/
def Qsu (N : Nat) (nx : Int) (P : List Od) (er : Int) (b : Bool) (v : Value) (w : World) : Prop := ∃ (pc' : Nat) (pa' : Option Addr), v = .tuple #[.agg #[.int .i64 nx, .slice pa' P.length pc'], .int .i64 er] ∧ (b = false → OdsAt w (.slice pa' P.length pc') P ∧ ∀ g o, pa' = some ⟨g, o, none⟩ → N ≤ g)
theorem Qsu.step {N : Nat} {nx : Int} {P : List Od} {er : Int} {b : Bool} {v : Value} {w w' : World} (h : Qsu N nx P er b v w) (hb : Below w.heap.size w w') : Qsu N nx P er b v w' := by
  obtain ⟨c, a, e, h⟩ := h
  exact ⟨c, a, e, fun q => ⟨(h q).1.step hb, (h q).2⟩⟩
theorem Qsu.put {N : Nat} {nx : Int} {P : List Od} {er : Int} {b : Bool} {v : Value} {w : World} (h : Qsu N nx P er b v w) (w' : World) : Qsu N nx P er true v w' := by
  obtain ⟨c, a, e, h⟩ := h
  exact ⟨c, a, e, fun q => by cases q⟩
def Z2 : Array Value := #[.int .i64 0, .slice none 0 0]
theorem box_ods {w : World} {k n c : Nat} {t : TypeId} {a : Option Addr} {L : List Od} (hz : BoxN w k Z2 t) (h : OdsAt w (.slice a n c) L) (hl : L ≠ []) : nb a k := by
  obtain ⟨a1, cap, hv, h1, hm, hc⟩ := h
  obtain ⟨rfl, -, -⟩ : a = a1 ∧ n = L.length ∧ c = cap := by simpa using hv
  obtain ⟨b1, off, rfl, hx⟩ := hc hl
  intro g o e
  cases e
  rintro rfl
  have h0 : 0 < L.length := List.length_pos_iff.2 hl
  obtain ⟨q0, q1, -, -⟩ := hx 0 _ (List.getElem?_eq_getElem h0)
  have hz' : w.heap[b1]? = some (.cells Z2 t (0, 0)) := hz
  rcases off with _ | _ | off <;> simp [World.cell?, hz', Z2] at q0 q1
def Qsk (N : Nat) (nx : Int) (P : List Od) (b : Bool) (v : Value) (w : World) : Prop :=
  ∃ k : Nat, v = .pointer (some ⟨k, 0, none⟩) ∧ N ≤ k ∧ (b = false → BoxN w k Z2 24) ∧ (b = true → P ≠ [] → ∃ (pc' : Nat) (pa' : Option Addr), Cs w k #[.int .i64 nx, .slice pa' P.length pc'] ∧ OdsAt w (.slice pa' P.length pc') P ∧ (∀ g o, pa' = some ⟨g, o, none⟩ → N ≤ g))
theorem Qsk.step {N : Nat} {nx : Int} {P : List Od} {b : Bool} {v : Value} {w w' : World} (h : Qsk N nx P b v w) (hb : Below w.heap.size w w') : Qsk N nx P b v w' := by
  obtain ⟨k, e, hk, h1, h2⟩ := h
  refine ⟨k, e, hk, fun q => (h1 q).step hb, fun q hP => ?_⟩
  obtain ⟨c1, a1, h3, h4, h5⟩ := h2 q hP
  exact ⟨c1, a1, h3.step hb, h4.step hb, h5⟩
def put2 (w : World) (k : Nat) (nx : Int) (v : Value) : World := (w.setCell ⟨k, 0, none⟩ (.int .i64 nx)).setCell ⟨k, 1, none⟩ v
theorem put2_ok {w : World} {k N c : Nat} {t : TypeId} {a : Option Addr} {P : List Od} (nx : Int) (hz : BoxN w k Z2 t) (hp : OdsAt w (.slice a P.length c) P) (hk : N ≤ k) :
    Below N w (put2 w k nx (.slice a P.length c)) ∧ (P ≠ [] → Cs (put2 w k nx (.slice a P.length c)) k #[.int .i64 nx, .slice a P.length c] ∧ OdsAt (put2 w k nx (.slice a P.length c)) (.slice a P.length c) P) := by
  have hg := grown_trans (grown_set w k 0 (.int .i64 nx)) (grown_set _ k 1 (.slice a P.length c))
  refine ⟨((Below.refl N w).setCell (p := ⟨k, 0, none⟩) hk _).setCell (p := ⟨k, 1, none⟩) hk _, fun hl => ⟨Cs.set (Cs.set (Cs.of_heap hz) 0 (by simp [Z2]) _ rfl) 1 (by simp [Z2]) _ rfl, ods_kept hp hg fun _ => nb_some (box_ods hz hp hl)⟩⟩
end Go.Proofs.Ytkamkkjijjkfdaa
