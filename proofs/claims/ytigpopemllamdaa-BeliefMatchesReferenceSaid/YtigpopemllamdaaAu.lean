/- Beliefs: what a region keeps that calls, makes a box and fills it; the four functions' answers in one form. -/
import Derived.Test.YtigpopemllamdaaAt
import Derived.Test.YtigpopemllamdaaIv
import Derived.StillTailTactics
namespace Go.Proofs.Ytigpopemllamdaa
open Go.RowKit

def upv (vs : Nat → Value) (i : Nat) (x : Value) : Nat → Value := fun k => cond (k == i) x (vs k)
theorem upv_same (vs : Nat → Value) (i : Nat) (x : Value) : upv vs i x i = x := by simp [upv]
theorem upv_ne (vs : Nat → Value) (i k : Nat) (x : Value) (h : k ≠ i) : upv vs i x k = vs k := by
  have : (k == i) = false := by simp [h]
  simp [upv, this]
/-- A region that only makes memory: what each operation's value is. -/
def RS (lit : (Nat → Value) → Act) (W : World) (G : Nat → Value → World → Prop) (bf : Nat → Bool) (ac : Act) (wv : World) : Prop :=
  ∃ vs, ac = lit vs ∧ Below W.heap.size W wv ∧ ∀ i, bf i = true → G i (vs i) wv
theorem RS.next {lit : (Nat → Value) → Act} {W : World} {G : Nat → Value → World → Prop} {bf : Nat → Bool} {wv : World} {vs : Nat → Value} (i : Nat) {x : Value} {w' : World} {ac' : Act} (hac : ac' = lit (upv vs i x))
    (k : ∀ i, bf i = true → G i (vs i) wv) (hb : Below W.heap.size W w') (hs : ∀ k v, G k v wv → G k v w') (hx : G i x w') : RS lit W G (up bf i) ac' w' := by
  refine ⟨upv vs i x, hac, hb, fun j hu => ?_⟩
  by_cases e : j = i
  · subst e; rw [upv_same]; exact hx
  · rw [up_ne _ _ _ e] at hu; rw [upv_ne _ _ _ _ e]; exact hs _ _ (k j hu)
/-- A region with one pivot: which facts hold until it, and behind it; 'ed p q': q comes ahead of p. -/
def NS (lit : (Nat → Value) → Act) (s : Nat) (ed : Nat → Nat → Bool) (G : Bool → Nat → Value → World → Prop) (B : Bool → World → Prop) (bf : Nat → Bool) (ac : Act) (wv : World) : Prop :=
  ∃ vs, ac = lit vs ∧ (∀ p q, ed p q = true → bf p = true → bf q = true) ∧ B (bf s) wv ∧ ∀ i, bf i = true → G (bf s) i (vs i) wv
section
variable {lit : (Nat → Value) → Act} {s : Nat} {ed : Nat → Nat → Bool} {G : Bool → Nat → Value → World → Prop} {B : Bool → World → Prop}
theorem up_mono {bf : Nat → Bool} (i : Nat) {q : Nat} (h : bf q = true) : up bf i q = true := by unfold up; rw [h]; simp
theorem up_closed {bf : Nat → Bool} {i : Nat} (k : ∀ p q, ed p q = true → bf p = true → bf q = true) (ha : ∀ q, ed i q = true → bf q = true) : ∀ p q, ed p q = true → up bf i p = true → up bf i q = true := by
  intro p q he hp
  by_cases e : p = i
  · subst e; exact up_mono _ (ha q he)
  · rw [up_ne _ _ _ e] at hp; exact up_mono _ (k p q he hp)
theorem NS.start {ac : Act} {wv : World} (vs : Nat → Value) (hac : ac = lit vs) (hb : B false wv) : NS lit s ed G B (fun _ => false) ac wv :=
  ⟨vs, hac, fun _ _ _ h => (by cases h), hb, fun i h => (by cases h)⟩
theorem NS.next {bf : Nat → Bool} {wv : World} {vs : Nat → Value} (i : Nat) (hi : s ≠ i) (ha : ∀ q, ed i q = true → bf q = true) {x : Value} {w' : World} {ac' : Act} (hac : ac' = lit (upv vs i x))
    (k : (∀ p q, ed p q = true → bf p = true → bf q = true) ∧ ∀ i, bf i = true → G (bf s) i (vs i) wv) (hb : B (bf s) w') (hs : ∀ k, bf k = true → G (bf s) k (vs k) wv → G (bf s) k (vs k) w') (hx : G (bf s) i x w') : NS lit s ed G B (up bf i) ac' w' := by
  refine ⟨upv vs i x, hac, up_closed k.1 ha, by rw [up_ne _ _ _ hi]; exact hb, fun j hu => ?_⟩
  rw [up_ne _ _ _ hi]
  by_cases e : j = i
  · subst e; rw [upv_same]; exact hx
  · rw [up_ne _ _ _ e] at hu; rw [upv_ne _ _ _ _ e]; exact hs _ hu (k.2 j hu)
theorem NS.put {bf : Nat → Bool} {vs : Nat → Value} {w' : World} {ac' : Act} (hac : ac' = lit vs) (hn : (∀ p q, ed p q = true → bf p = true → bf q = true) ∧ ∀ q, ed s q = true → bf q = true) (hb : B true w') (hs : ∀ k, k ≠ s → bf k = true → G true k (vs k) w') (hx : ∀ v, G true s v w') : NS lit s ed G B (up bf s) ac' w' := by
  refine ⟨vs, hac, up_closed hn.1 hn.2, by rw [up_same]; exact hb, fun j hu => ?_⟩
  rw [up_same]
  by_cases e : j = s
  · subst e; exact hx _
  · rw [up_ne _ _ _ e] at hu; exact hs j e hu
theorem NS.piv {bf : Nat → Bool} {vs : Nat → Value} {x : Value} {w' : World} {ac' : Act} (hac : ac' = lit (upv vs s x)) (hn : (∀ p q, ed p q = true → bf p = true → bf q = true) ∧ ∀ q, ed s q = true → bf q = true) (hb : B true w') (hs : ∀ k, k ≠ s → bf k = true → G true k (vs k) w') (hx : G true s x w') : NS lit s ed G B (up bf s) ac' w' := by
  refine ⟨upv vs s x, hac, up_closed hn.1 hn.2, by rw [up_same]; exact hb, fun j hu => ?_⟩
  rw [up_same]
  by_cases e : j = s
  · subst e; rw [upv_same]; exact hx
  · rw [up_ne _ _ _ e] at hu; rw [upv_ne _ _ _ _ e]; exact hs j e hu
end

/-- A box's cells, as it was made. -/
def BoxN (W : World) (B : Nat) (vs : Array Value) (t : TypeId) : Prop := W.heap[B]? = some (.cells vs t (0, 0))
theorem BoxN.lt {W : World} {B : Nat} {t : TypeId} {vs : Array Value} (h : BoxN W B vs t) : B < W.heap.size := (Array.getElem?_eq_some_iff.1 h).1
theorem BoxN.new (W : World) (vs : Array Value) (t : TypeId) : BoxN (W.alloc (.cells vs t)) W.heap.size vs t := heap_alloc_new W _
theorem BoxN.step {W W' : World} {B : Nat} {t : TypeId} {vs : Array Value} (h : BoxN W B vs t) (hb : Below W.heap.size W W') : BoxN W' B vs t := (hb.block B h.lt).trans h
theorem cs_of_box {W : World} {B : Nat} {vs : Array Value} {t : TypeId} (h : BoxN W B vs t) : Cs W B vs := by
  have h' : W.heap[B]? = some (.cells vs t (0, 0)) := h
  exact ⟨fun j _ => by simp [World.cell?, h'], fun j _ => by simp [World.frozen?, h'], h.lt⟩
def ZB : Array Value := #[.slice none 0 0, .slice none 0 0]
/-- A belief's two lists. -/
def Rb (V : List Int) (M : List Od) (ua : Option Addr) (uc : Nat) (fa : Option Addr) (fc : Nat) (w : World) : Prop := IntsAt w (.slice ua V.length uc) V ∧ OdsAt w (.slice fa M.length fc) M
theorem Rb.step {V : List Int} {M : List Od} {ua fa : Option Addr} {uc fc : Nat} {w w' : World} (h : Rb V M ua uc fa fc w) (hb : Below w.heap.size w w') : Rb V M ua uc fa fc w' := ⟨h.1.step hb, h.2.step hb⟩
/-- A box of slices keeps no list of numbers. -/
def Sl (w : World) (k : Nat) : Prop := ∀ j x, w.cell? ⟨k, j, none⟩ ≠ some (.int .i64 x)
theorem sl_of {w : World} {k : Nat} {t : TypeId} {a b : Option Addr} {n c m d : Nat} (h : BoxN w k #[.slice a n c, .slice b m d] t) : Sl w k := by
  have h' : w.heap[k]? = some (.cells #[.slice a n c, .slice b m d] t (0, 0)) := h
  intro j x e
  rcases j with _ | _ | j <;> simp [World.cell?, h'] at e
theorem Rb.kept {V : List Int} {M : List Od} {ua fa : Option Addr} {uc fc k : Nat} {w w' : World} (h : Rb V M ua uc fa fc w) (hc : Chg k w w') (hs : Sl w k) : Rb V M ua uc fa fc w' := by
  constructor
  · by_cases hl : V = []
    · obtain ⟨a, c, e, hm, -⟩ := h.1
      exact ⟨a, c, e, hm, fun q => absurd hl q⟩
    · refine hc.ints ?_ h.1
      obtain ⟨a, c, e, -, hx⟩ := h.1
      obtain ⟨b, off, ha, hx⟩ := hx hl
      intro g o hg
      have h0 := hx 0 _ (List.getElem?_eq_getElem (List.length_pos_iff.2 hl))
      have hua : ua = a := by simp at e; exact e.1
      rw [hua, ha] at hg
      cases hg
      rintro rfl
      exact hs _ _ h0
  · by_cases hl : M = []
    · obtain ⟨a, c, e, h1, hm, -⟩ := h.2
      exact ⟨a, c, e, h1, hm, fun q => absurd hl q⟩
    · refine hc.ods ?_ h.2
      obtain ⟨a, c, e, -, -, hx⟩ := h.2
      obtain ⟨b, off, ha, hx⟩ := hx hl
      intro g o hg
      have h0 := (hx 0 _ (List.getElem?_eq_getElem (List.length_pos_iff.2 hl))).1
      have hua : fa = a := by simp at e; exact e.1
      rw [hua, ha] at hg
      cases hg
      rintro rfl
      exact hs _ _ h0
def putB (w : World) (k : Nat) (u v : Value) : World := (w.setCell ⟨k, 0, none⟩ u).setCell ⟨k, 1, none⟩ v
theorem putB_chg (w : World) (k : Nat) (u v : Value) : Chg k w (putB w k u v) := ((Chg.of (Below.refl _ w)).set 0 u).set 1 v
theorem BoxN.set {w : World} {b : Nat} {t : TypeId} {vs : Array Value} (h : BoxN w b vs t) (j : Nat) (v : Value) {vs' : Array Value} (hvs : vs.setIfInBounds j v = vs') : BoxN (w.setCell ⟨b, j, none⟩ v) b vs' t := by
  subst hvs
  have h' : w.heap[b]? = some (.cells vs t (0, 0)) := h
  have hl := h.lt
  have h2 : w.heap[b] = .cells vs t (0, 0) := by simpa [Array.getElem?_eq_getElem hl] using h'
  show (w.heap.modify b _)[b]? = _
  rw [Array.getElem?_eq_getElem (by simpa using hl), Array.getElem_modify_self, h2]
  rfl
theorem putB_box {w : World} {k : Nat} {t : TypeId} {a b : Value} (h : BoxN w k #[a, b] t) (u v : Value) : BoxN (putB w k u v) k #[u, v] t :=
  (h.set 0 u rfl).set 1 v rfl
/-- The values of a region that calls: the call's two results, the belief, its new box. -/
def Qt (V : List Int) (M : List Od) (E : Int) (b : Bool) (v : Value) (w : World) : Prop :=
  ∃ (ua : Option Addr) (uc : Nat) (fa : Option Addr) (fc : Nat), v = .tuple #[.agg #[.slice ua V.length uc, .slice fa M.length fc], .int .i64 E] ∧ (b = false → Rb V M ua uc fa fc w)
theorem Qt.step {V : List Int} {M : List Od} {E : Int} {b : Bool} {v : Value} {w w' : World} (h : Qt V M E b v w) (hb : Below w.heap.size w w') : Qt V M E b v w' := by
  obtain ⟨ua, uc, fa, fc, e, h⟩ := h
  exact ⟨ua, uc, fa, fc, e, fun q => (h q).step hb⟩
theorem Qt.put {V : List Int} {M : List Od} {E : Int} {b : Bool} {v : Value} {w : World} (h : Qt V M E b v w) (w' : World) : Qt V M E true v w' := by
  obtain ⟨ua, uc, fa, fc, e, h⟩ := h
  exact ⟨ua, uc, fa, fc, e, fun q => by cases q⟩
def Qa (V : List Int) (M : List Od) (b : Bool) (v : Value) (w : World) : Prop :=
  ∃ (ua : Option Addr) (uc : Nat) (fa : Option Addr) (fc : Nat), v = .agg #[.slice ua V.length uc, .slice fa M.length fc] ∧ (b = false → Rb V M ua uc fa fc w)
theorem Qa.step {V : List Int} {M : List Od} {b : Bool} {v : Value} {w w' : World} (h : Qa V M b v w) (hb : Below w.heap.size w w') : Qa V M b v w' := by
  obtain ⟨ua, uc, fa, fc, e, h⟩ := h
  exact ⟨ua, uc, fa, fc, e, fun q => (h q).step hb⟩
theorem Qa.put {V : List Int} {M : List Od} {b : Bool} {v : Value} {w : World} (h : Qa V M b v w) (w' : World) : Qa V M true v w' := by
  obtain ⟨ua, uc, fa, fc, e, h⟩ := h
  exact ⟨ua, uc, fa, fc, e, fun q => by cases q⟩
/-- A belief's box. -/
def BB (V : List Int) (M : List Od) (k : Nat) (w : World) : Prop :=
  ∃ (ua : Option Addr) (uc : Nat) (fa : Option Addr) (fc : Nat), BoxN w k #[.slice ua V.length uc, .slice fa M.length fc] 25 ∧ Rb V M ua uc fa fc w
theorem BB.step {V : List Int} {M : List Od} {k : Nat} {w w' : World} (h : BB V M k w) (hb : Below w.heap.size w w') : BB V M k w' := by
  obtain ⟨ua, uc, fa, fc, h1, h2⟩ := h
  exact ⟨ua, uc, fa, fc, h1.step hb, h2.step hb⟩
theorem BB.new {V : List Int} {M : List Od} {ua fa : Option Addr} {uc fc : Nat} {w : World} (h : Rb V M ua uc fa fc w) : BB V M w.heap.size (w.alloc (.cells #[.slice ua V.length uc, .slice fa M.length fc] 25)) :=
  ⟨ua, uc, fa, fc, BoxN.new _ _ _, h.step (al _ _)⟩
theorem BB.lt {V : List Int} {M : List Od} {k : Nat} {w : World} (h : BB V M k w) : k < w.heap.size := by
  obtain ⟨ua, uc, fa, fc, h1, -⟩ := h
  exact h1.lt
theorem BB.sl {V : List Int} {M : List Od} {k : Nat} {w : World} (h : BB V M k w) : Sl w k := by
  obtain ⟨ua, uc, fa, fc, h1, -⟩ := h
  exact sl_of h1
theorem BB.other {V : List Int} {M : List Od} {k n : Nat} {w w' : World} (h : BB V M k w) (hc : Chg n w w') (hs : Sl w n) (hn : k ≠ n) : BB V M k w' := by
  obtain ⟨ua, uc, fa, fc, h1, h2⟩ := h
  exact ⟨ua, uc, fa, fc, (hc.block k h1.lt hn).trans h1, h2.kept hc hs⟩
/-- A belief is laid into a box. -/
theorem BB.of_put {V V0 : List Int} {M M0 : List Od} {k : Nat} {ua fa : Option Addr} {uc fc : Nat} {w : World} (h : BB V0 M0 k w) (hr : Rb V M ua uc fa fc w) : BB V M k (putB w k (.slice ua V.length uc) (.slice fa M.length fc)) := by
  obtain ⟨a, b, c, d, h1, -⟩ := h
  exact ⟨ua, uc, fa, fc, putB_box h1 _ _, hr.kept (putB_chg _ _ _ _) (sl_of h1)⟩
theorem bb_zero {w : World} {k : Nat} (h : BoxN w k ZB 25) : BB [] [] k w := ⟨none, 0, none, 0, h, ints_nil w, ods_nil w⟩
def Qk (N : Nat) (V : List Int) (M : List Od) (b : Bool) (v : Value) (w : World) : Prop :=
  ∃ k : Nat, v = .pointer (some ⟨k, 0, none⟩) ∧ N ≤ k ∧ (b = false → BoxN w k ZB 25) ∧ (b = true → BB V M k w)
theorem Qk.step {N : Nat} {V : List Int} {M : List Od} {b : Bool} {v : Value} {w w' : World} (h : Qk N V M b v w) (hb : Below w.heap.size w w') : Qk N V M b v w' := by
  obtain ⟨k, e, hk, h1, h2⟩ := h
  exact ⟨k, e, hk, fun q => (h1 q).step hb, fun q => (h2 q).step hb⟩
theorem putB_below {w : World} {k N : Nat} (u v : Value) (hk : N ≤ k) : Below N w (putB w k u v) := ((Below.refl N w).setCell (p := ⟨k, 0, none⟩) hk _).setCell (p := ⟨k, 1, none⟩) hk _
/-- What a change answers. -/
def ChQ (V : List Int) (M : List Od) (E : Int) (w : World) (e : Ending) (w' : World) : Prop :=
  ∃ (ua : Option Addr) (uc : Nat) (fa : Option Addr) (fc : Nat), e = .returned (.tuple #[.agg #[.slice ua V.length uc, .slice fa M.length fc], .int .i64 E]) ∧ Below w.heap.size w w' ∧ Rb V M ua uc fa fc w'
def rV (E : Int) (M : List Od) : List Int := if E = 0 then vof M else []
def rM (E : Int) (M : List Od) : List Od := if E = 0 then M else []
theorem chq_of {w w' : World} {E : Int} {M : List Od} {e : Ending} (h : ChP w E M e w') : ChQ (rV E M) (rM E M) E w e w' := by
  obtain ⟨bv, he, hb, h1, h2⟩ := h
  unfold rV rM
  by_cases hE : E = 0
  · obtain ⟨ua, uc, fa, fc, rfl, hi, ho, -, -⟩ := h2 hE
    rw [if_pos hE, if_pos hE]
    exact ⟨ua, uc, fa, fc, he, hb, hi, ho⟩
  · have hz := h1 hE
    rw [if_neg hE, if_neg hE]
    exact ⟨none, 0, none, 0, by rw [he, hz]; rfl, hb, ints_nil w', ods_nil w'⟩
theorem sent_q {V V' : List Int} {L M' : List Od} (o : Od) {E : Int} (hE : snE V L o = E) (hV' : rV E (L ++ [o]) = V') (hM' : rM E (L ++ [o]) = M') (va : Option Addr) (vc : Nat) (sa : Option Addr) (sc : Nat) (w : World) (h : Rb V L va vc sa sc w) (h9 : L.length ≤ 300) (h8 : V.length ≤ 300) :
    Calls Try.prog 11 #[.agg #[.slice va V.length vc, .slice sa L.length sc], .agg #[.int .i64 o.a, .int .i64 o.b, .int .i64 o.c, .int .i64 o.d]] w (ChQ V' M' E w) := by
  subst hV' hM' hE
  exact (sent_any va vc V sa sc L o w h.2 h.1 h9 h8 _ rfl).mono fun e w' q => chq_of q
theorem confirmed_q {V V' : List Int} {L M' : List Od} (q : Int) {E : Int} (hE : cnE V L q = E) (hV' : rV E (cfM q L) = V') (hM' : rM E (cfM q L) = M') (va : Option Addr) (vc : Nat) (sa : Option Addr) (sc : Nat) (w : World) (h : Rb V L va vc sa sc w) (h9 : L.length ≤ 300) (h8 : V.length ≤ 300) :
    Calls Try.prog 13 #[.agg #[.slice va V.length vc, .slice sa L.length sc], .int .i64 q] w (ChQ V' M' E w) := by
  subst hV' hM' hE
  exact (confirmed_any va vc V sa sc L q w h.2 h.1 h9 h8 _ rfl).mono fun e w' q => chq_of q
theorem reported_q {V V' : List Int} {L M' : List Od} (v t : Int) {E : Int} (hE : rnE V L v t = E) (hV' : rV E (rpM L v t) = V') (hM' : rM E (rpM L v t) = M') (va : Option Addr) (vc : Nat) (sa : Option Addr) (sc : Nat) (w : World) (h : Rb V L va vc sa sc w) (h9 : L.length ≤ 300) (h8 : V.length ≤ 300) :
    Calls Try.prog 15 #[.agg #[.slice va V.length vc, .slice sa L.length sc], .int .i64 v, .int .i64 t] w (ChQ V' M' E w) := by
  subst hV' hM' hE
  exact (reported_any va vc V sa sc L v t w h.2 h.1 h9 h8 _ rfl).mono fun e w' q => chq_of q
end Go.Proofs.Ytigpopemllamdaa
