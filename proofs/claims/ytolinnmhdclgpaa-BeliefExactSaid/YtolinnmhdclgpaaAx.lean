import Derived.Test.YtolinnmhdclgpaaAt
import Derived.StillTailTactics
import Derived.Test.YtolinnmhdclgpaaIv
namespace Go.Proofs.Ytolinnmhdclgpaa
open Go.RowKit

def upv (vs : Nat → Value) (i : Nat) (x : Value) : Nat → Value := fun k => cond (k == i) x (vs k)
theorem upv_same (vs : Nat → Value) (i : Nat) (x : Value) : upv vs i x i = x := by simp [upv]
theorem upv_ne (vs : Nat → Value) (i k : Nat) (x : Value) (h : k ≠ i) : upv vs i x k = vs k := by
  have : (k == i) = false := by simp [h]
  simp [upv, this]
/-- A region that only makes memory: what each operation's value is. -/
def RS (lit : (Nat → Value) → Act) (W : World) (G : Nat → Value → World → Prop) (bf : Nat → Bool) (ac : Act) (wv : World) : Prop :=
  ∃ vs, ac = lit vs ∧ Below W.heap.size W wv ∧ ∀ i, bf i = true → G i (vs i) wv
theorem RS.next {lit : (Nat → Value) → Act} {W : World} {G : Nat → Value → World → Prop} {bf : Nat → Bool} {wv : World} {vs : Nat → Value} (i : Nat) {x : Value} {w' : World} {ac' : Act} (hac : ac' = lit (upv vs i x))
    (k : ∀ i, bf i = true → G i (vs i) wv) (hb : Below W.heap.size W w') (hs : ∀ k v, G k v wv → G k v w') (hx : G i x w') : RS lit W G (up bf i) ac' w' := by
  refine ⟨upv vs i x, hac, hb, fun j hu => ?_⟩
  by_cases e : j = i
  · subst e; rw [upv_same]; exact hx
  · rw [up_ne _ _ _ e] at hu; rw [upv_ne _ _ _ _ e]; exact hs _ _ (k j hu)
/-- A region with one pivot: which facts hold until it, and behind it; 'ed p q': q comes ahead of p. -/
def NS (lit : (Nat → Value) → Act) (s : Nat) (ed : Nat → Nat → Bool) (G : Bool → Nat → Value → World → Prop) (B : Bool → World → Prop) (bf : Nat → Bool) (ac : Act) (wv : World) : Prop :=
  ∃ vs, ac = lit vs ∧ (∀ p q, ed p q = true → bf p = true → bf q = true) ∧ B (bf s) wv ∧ ∀ i, bf i = true → G (bf s) i (vs i) wv
section
variable {lit : (Nat → Value) → Act} {s : Nat} {ed : Nat → Nat → Bool} {G : Bool → Nat → Value → World → Prop} {B : Bool → World → Prop}
theorem up_mono {bf : Nat → Bool} (i : Nat) {q : Nat} (h : bf q = true) : up bf i q = true := by unfold up; rw [h]; simp
theorem up_closed {bf : Nat → Bool} {i : Nat} (k : ∀ p q, ed p q = true → bf p = true → bf q = true) (ha : ∀ q, ed i q = true → bf q = true) : ∀ p q, ed p q = true → up bf i p = true → up bf i q = true := by
  intro p q he hp
  by_cases e : p = i
  · subst e; exact up_mono _ (ha q he)
  · rw [up_ne _ _ _ e] at hp; exact up_mono _ (k p q he hp)
theorem NS.start {ac : Act} {wv : World} (vs : Nat → Value) (hac : ac = lit vs) (hb : B false wv) : NS lit s ed G B (fun _ => false) ac wv :=
  ⟨vs, hac, fun _ _ _ h => (by cases h), hb, fun i h => (by cases h)⟩
theorem NS.next {bf : Nat → Bool} {wv : World} {vs : Nat → Value} (i : Nat) (hi : s ≠ i) (ha : ∀ q, ed i q = true → bf q = true) {x : Value} {w' : World} {ac' : Act} (hac : ac' = lit (upv vs i x))
    (k : (∀ p q, ed p q = true → bf p = true → bf q = true) ∧ ∀ i, bf i = true → G (bf s) i (vs i) wv) (hb : B (bf s) w') (hs : ∀ k, bf k = true → G (bf s) k (vs k) wv → G (bf s) k (vs k) w') (hx : G (bf s) i x w') : NS lit s ed G B (up bf i) ac' w' := by
  refine ⟨upv vs i x, hac, up_closed k.1 ha, by rw [up_ne _ _ _ hi]; exact hb, fun j hu => ?_⟩
  rw [up_ne _ _ _ hi]
  by_cases e : j = i
  · subst e; rw [upv_same]; exact hx
  · rw [up_ne _ _ _ e] at hu; rw [upv_ne _ _ _ _ e]; exact hs _ hu (k.2 j hu)
theorem NS.put {bf : Nat → Bool} {vs : Nat → Value} {w' : World} {ac' : Act} (hac : ac' = lit vs) (hn : (∀ p q, ed p q = true → bf p = true → bf q = true) ∧ ∀ q, ed s q = true → bf q = true) (hb : B true w') (hs : ∀ k, k ≠ s → bf k = true → G true k (vs k) w') (hx : ∀ v, G true s v w') : NS lit s ed G B (up bf s) ac' w' := by
  refine ⟨vs, hac, up_closed hn.1 hn.2, by rw [up_same]; exact hb, fun j hu => ?_⟩
  rw [up_same]
  by_cases e : j = s
  · subst e; exact hx _
  · rw [up_ne _ _ _ e] at hu; exact hs j e hu
end

/-- A box's cells, as it was made. -/
def BoxN (W : World) (B : Nat) (vs : Array Value) (t : TypeId) : Prop := W.heap[B]? = some (.cells vs t (0, 0))
theorem BoxN.lt {W : World} {B : Nat} {t : TypeId} {vs : Array Value} (h : BoxN W B vs t) : B < W.heap.size := (Array.getElem?_eq_some_iff.1 h).1
theorem BoxN.new (W : World) (vs : Array Value) (t : TypeId) : BoxN (W.alloc (.cells vs t)) W.heap.size vs t := heap_alloc_new W _
theorem BoxN.step {W W' : World} {B : Nat} {t : TypeId} {vs : Array Value} (h : BoxN W B vs t) (hb : Below W.heap.size W W') : BoxN W' B vs t := (hb.block B h.lt).trans h
theorem cs_of_box {W : World} {B : Nat} {vs : Array Value} {t : TypeId} (h : BoxN W B vs t) : Cs W B vs := by
  have h' : W.heap[B]? = some (.cells vs t (0, 0)) := h
  exact ⟨fun j _ => by simp [World.cell?, h'], fun j _ => by simp [World.frozen?, h'], h.lt⟩
def ZB : Array Value := #[.slice none 0 0, .slice none 0 0]
/-- A belief's two lists. -/
def Rb (V : List Int) (M : List Od) (ua : Option Addr) (uc : Nat) (fa : Option Addr) (fc : Nat) (w : World) : Prop := IntsAt w (.slice ua V.length uc) V ∧ OdsAt w (.slice fa M.length fc) M
theorem Rb.step {V : List Int} {M : List Od} {ua fa : Option Addr} {uc fc : Nat} {w w' : World} (h : Rb V M ua uc fa fc w) (hb : Below w.heap.size w w') : Rb V M ua uc fa fc w' := ⟨h.1.step hb, h.2.step hb⟩
/-- A box of slices keeps no list of numbers. -/
def Sl (w : World) (k : Nat) : Prop := ∀ j x, w.cell? ⟨k, j, none⟩ ≠ some (.int .i64 x)
theorem sl_of {w : World} {k : Nat} {t : TypeId} {a b : Option Addr} {n c m d : Nat} (h : BoxN w k #[.slice a n c, .slice b m d] t) : Sl w k := by
  have h' : w.heap[k]? = some (.cells #[.slice a n c, .slice b m d] t (0, 0)) := h
  intro j x e
  rcases j with _ | _ | j <;> simp [World.cell?, h'] at e
theorem Rb.kept {V : List Int} {M : List Od} {ua fa : Option Addr} {uc fc k : Nat} {w w' : World} (h : Rb V M ua uc fa fc w) (hc : Chg k w w') (hs : Sl w k) : Rb V M ua uc fa fc w' := by
  constructor
  · by_cases hl : V = []
    · obtain ⟨a, c, e, hm, -⟩ := h.1
      exact ⟨a, c, e, hm, fun q => absurd hl q⟩
    · refine hc.ints ?_ h.1
      obtain ⟨a, c, e, -, hx⟩ := h.1
      obtain ⟨b, off, ha, hx⟩ := hx hl
      intro g o hg
      have h0 := hx 0 _ (List.getElem?_eq_getElem (List.length_pos_iff.2 hl))
      have hua : ua = a := by simp at e; exact e.1
      rw [hua, ha] at hg
      cases hg
      rintro rfl
      exact hs _ _ h0
  · by_cases hl : M = []
    · obtain ⟨a, c, e, h1, hm, -⟩ := h.2
      exact ⟨a, c, e, h1, hm, fun q => absurd hl q⟩
    · refine hc.ods ?_ h.2
      obtain ⟨a, c, e, -, -, hx⟩ := h.2
      obtain ⟨b, off, ha, hx⟩ := hx hl
      intro g o hg
      have h0 := (hx 0 _ (List.getElem?_eq_getElem (List.length_pos_iff.2 hl))).1
      have hua : fa = a := by simp at e; exact e.1
      rw [hua, ha] at hg
      cases hg
      rintro rfl
      exact hs _ _ h0
def putB (w : World) (k : Nat) (u v : Value) : World := (w.setCell ⟨k, 0, none⟩ u).setCell ⟨k, 1, none⟩ v
theorem putB_chg (w : World) (k : Nat) (u v : Value) : Chg k w (putB w k u v) := ((Chg.of (Below.refl _ w)).set 0 u).set 1 v
theorem BoxN.set {w : World} {b : Nat} {t : TypeId} {vs : Array Value} (h : BoxN w b vs t) (j : Nat) (v : Value) {vs' : Array Value} (hvs : vs.setIfInBounds j v = vs') : BoxN (w.setCell ⟨b, j, none⟩ v) b vs' t := by
  subst hvs
  have h' : w.heap[b]? = some (.cells vs t (0, 0)) := h
  have hl := h.lt
  have h2 : w.heap[b] = .cells vs t (0, 0) := by simpa [Array.getElem?_eq_getElem hl] using h'
  show (w.heap.modify b _)[b]? = _
  rw [Array.getElem?_eq_getElem (by simpa using hl), Array.getElem_modify_self, h2]
  rfl
theorem putB_box {w : World} {k : Nat} {t : TypeId} {a b : Value} (h : BoxN w k #[a, b] t) (u v : Value) : BoxN (putB w k u v) k #[u, v] t :=
  (h.set 0 u rfl).set 1 v rfl
/-- The values of a region that calls: the call's two results, the belief, its new box. -/
def Qt (V : List Int) (M : List Od) (E : Int) (b : Bool) (v : Value) (w : World) : Prop :=
  ∃ (ua : Option Addr) (uc : Nat) (fa : Option Addr) (fc : Nat), v = .tuple #[.agg #[.slice ua V.length uc, .slice fa M.length fc], .int .i64 E] ∧ (b = false → Rb V M ua uc fa fc w)
theorem Qt.step {V : List Int} {M : List Od} {E : Int} {b : Bool} {v : Value} {w w' : World} (h : Qt V M E b v w) (hb : Below w.heap.size w w') : Qt V M E b v w' := by
  obtain ⟨ua, uc, fa, fc, e, h⟩ := h
  exact ⟨ua, uc, fa, fc, e, fun q => (h q).step hb⟩
theorem Qt.put {V : List Int} {M : List Od} {E : Int} {b : Bool} {v : Value} {w : World} (h : Qt V M E b v w) (w' : World) : Qt V M E true v w' := by
  obtain ⟨ua, uc, fa, fc, e, h⟩ := h
  exact ⟨ua, uc, fa, fc, e, fun q => by cases q⟩
def Qa (V : List Int) (M : List Od) (b : Bool) (v : Value) (w : World) : Prop :=
  ∃ (ua : Option Addr) (uc : Nat) (fa : Option Addr) (fc : Nat), v = .agg #[.slice ua V.length uc, .slice fa M.length fc] ∧ (b = false → Rb V M ua uc fa fc w)
theorem Qa.step {V : List Int} {M : List Od} {b : Bool} {v : Value} {w w' : World} (h : Qa V M b v w) (hb : Below w.heap.size w w') : Qa V M b v w' := by
  obtain ⟨ua, uc, fa, fc, e, h⟩ := h
  exact ⟨ua, uc, fa, fc, e, fun q => (h q).step hb⟩
theorem Qa.put {V : List Int} {M : List Od} {b : Bool} {v : Value} {w : World} (h : Qa V M b v w) (w' : World) : Qa V M true v w' := by
  obtain ⟨ua, uc, fa, fc, e, h⟩ := h
  exact ⟨ua, uc, fa, fc, e, fun q => by cases q⟩
/-- A belief's box. -/
def BB (V : List Int) (M : List Od) (k : Nat) (w : World) : Prop :=
  ∃ (ua : Option Addr) (uc : Nat) (fa : Option Addr) (fc : Nat), BoxN w k #[.slice ua V.length uc, .slice fa M.length fc] 25 ∧ Rb V M ua uc fa fc w
theorem BB.step {V : List Int} {M : List Od} {k : Nat} {w w' : World} (h : BB V M k w) (hb : Below w.heap.size w w') : BB V M k w' := by
  obtain ⟨ua, uc, fa, fc, h1, h2⟩ := h
  exact ⟨ua, uc, fa, fc, h1.step hb, h2.step hb⟩
theorem BB.new {V : List Int} {M : List Od} {ua fa : Option Addr} {uc fc : Nat} {w : World} (h : Rb V M ua uc fa fc w) : BB V M w.heap.size (w.alloc (.cells #[.slice ua V.length uc, .slice fa M.length fc] 25)) :=
  ⟨ua, uc, fa, fc, BoxN.new _ _ _, h.step (al _ _)⟩
theorem BB.lt {V : List Int} {M : List Od} {k : Nat} {w : World} (h : BB V M k w) : k < w.heap.size := by
  obtain ⟨ua, uc, fa, fc, h1, -⟩ := h
  exact h1.lt
theorem BB.other {V : List Int} {M : List Od} {k n : Nat} {w w' : World} (h : BB V M k w) (hc : Chg n w w') (hs : Sl w n) (hn : k ≠ n) : BB V M k w' := by
  obtain ⟨ua, uc, fa, fc, h1, h2⟩ := h
  exact ⟨ua, uc, fa, fc, (hc.block k h1.lt hn).trans h1, h2.kept hc hs⟩
/-- A belief is laid into a box. -/
theorem BB.of_put {V V0 : List Int} {M M0 : List Od} {k : Nat} {ua fa : Option Addr} {uc fc : Nat} {w : World} (h : BB V0 M0 k w) (hr : Rb V M ua uc fa fc w) : BB V M k (putB w k (.slice ua V.length uc) (.slice fa M.length fc)) := by
  obtain ⟨a, b, c, d, h1, -⟩ := h
  exact ⟨ua, uc, fa, fc, putB_box h1 _ _, hr.kept (putB_chg _ _ _ _) (sl_of h1)⟩
theorem bb_zero {w : World} {k : Nat} (h : BoxN w k ZB 25) : BB [] [] k w := ⟨none, 0, none, 0, h, ints_nil w, ods_nil w⟩
def Qk (N : Nat) (V : List Int) (M : List Od) (b : Bool) (v : Value) (w : World) : Prop :=
  ∃ k : Nat, v = .pointer (some ⟨k, 0, none⟩) ∧ N ≤ k ∧ (b = false → BoxN w k ZB 25) ∧ (b = true → BB V M k w)
theorem Qk.step {N : Nat} {V : List Int} {M : List Od} {b : Bool} {v : Value} {w w' : World} (h : Qk N V M b v w) (hb : Below w.heap.size w w') : Qk N V M b v w' := by
  obtain ⟨k, e, hk, h1, h2⟩ := h
  exact ⟨k, e, hk, fun q => (h1 q).step hb, fun q => (h2 q).step hb⟩
theorem putB_below {w : World} {k N : Nat} (u v : Value) (hk : N ≤ k) : Below N w (putB w k u v) := ((Below.refl N w).setCell (p := ⟨k, 0, none⟩) hk _).setCell (p := ⟨k, 1, none⟩) hk _
/-- What a change answers. -/
def ChQ (V : List Int) (M : List Od) (E : Int) (w : World) (e : Ending) (w' : World) : Prop :=
  ∃ (ua : Option Addr) (uc : Nat) (fa : Option Addr) (fc : Nat), e = .returned (.tuple #[.agg #[.slice ua V.length uc, .slice fa M.length fc], .int .i64 E]) ∧ Below w.heap.size w w' ∧ Rb V M ua uc fa fc w'
def rV (E : Int) (M : List Od) : List Int := if E = 0 then vof M else []
def rM (E : Int) (M : List Od) : List Od := if E = 0 then M else []
theorem chq_of {w w' : World} {E : Int} {M : List Od} {e : Ending} (h : ChP w E M e w') : ChQ (rV E M) (rM E M) E w e w' := by
  obtain ⟨bv, he, hb, h1, h2⟩ := h
  unfold rV rM
  by_cases hE : E = 0
  · obtain ⟨ua, uc, fa, fc, rfl, hi, ho, -, -⟩ := h2 hE
    rw [if_pos hE, if_pos hE]
    exact ⟨ua, uc, fa, fc, he, hb, hi, ho⟩
  · have hz := h1 hE
    rw [if_neg hE, if_neg hE]
    exact ⟨none, 0, none, 0, by rw [he, hz]; rfl, hb, ints_nil w', ods_nil w'⟩
theorem sent_q {V V' : List Int} {L M' : List Od} (o : Od) {E : Int} (hE : snE V L o = E) (hV' : rV E (L ++ [o]) = V') (hM' : rM E (L ++ [o]) = M') (va : Option Addr) (vc : Nat) (sa : Option Addr) (sc : Nat) (w : World) (h : Rb V L va vc sa sc w) (h9 : L.length ≤ 300) (h8 : V.length ≤ 300) :
    Calls Try.prog 11 #[.agg #[.slice va V.length vc, .slice sa L.length sc], .agg #[.int .i64 o.a, .int .i64 o.b, .int .i64 o.c, .int .i64 o.d]] w (ChQ V' M' E w) := by
  subst hV' hM' hE
  exact (sent_any va vc V sa sc L o w h.2 h.1 h9 h8 _ rfl).mono fun e w' q => chq_of q
theorem confirmed_q {V V' : List Int} {L M' : List Od} (q : Int) {E : Int} (hE : cnE V L q = E) (hV' : rV E (cfM q L) = V') (hM' : rM E (cfM q L) = M') (va : Option Addr) (vc : Nat) (sa : Option Addr) (sc : Nat) (w : World) (h : Rb V L va vc sa sc w) (h9 : L.length ≤ 300) (h8 : V.length ≤ 300) :
    Calls Try.prog 13 #[.agg #[.slice va V.length vc, .slice sa L.length sc], .int .i64 q] w (ChQ V' M' E w) := by
  subst hV' hM' hE
  exact (confirmed_any va vc V sa sc L q w h.2 h.1 h9 h8 _ rfl).mono fun e w' q => chq_of q
theorem reported_q {V V' : List Int} {L M' : List Od} (v t : Int) {E : Int} (hE : rnE V L v t = E) (hV' : rV E (rpM L v t) = V') (hM' : rM E (rpM L v t) = M') (va : Option Addr) (vc : Nat) (sa : Option Addr) (sc : Nat) (w : World) (h : Rb V L va vc sa sc w) (h9 : L.length ≤ 300) (h8 : V.length ≤ 300) :
    Calls Try.prog 15 #[.agg #[.slice va V.length vc, .slice sa L.length sc], .int .i64 v, .int .i64 t] w (ChQ V' M' E w) := by
  subst hV' hM' hE
  exact (reported_any va vc V sa sc L v t w h.2 h.1 h9 h8 _ rfl).mono fun e w' q => chq_of q
open Go.RowKit

theorem take_eq_iff {l l' : List Int} (k : Nat) (hk : k < l.length) (hk' : k < l'.length) (h : l.take k = l'.take k) : l.take (k + 1) = l'.take (k + 1) ↔ l.getD k 0 = l'.getD k 0 := by
  rw [List.take_succ_eq_append_getElem hk, List.take_succ_eq_append_getElem hk', h, List.append_right_inj]
  simp [hk, hk']
set_option maxRecDepth 100000 in
set_option maxHeartbeats 2000000 in
theorem ints_any (v u : Value) (l l' : List Int) (w : World) (h : IntsAt w v l) (h' : IntsAt w u l') :
    Calls Try.prog 33 #[v, u] w fun e w' => e = .returned (.bool (decide (l = l'))) ∧ ∃ n, w' = w.drewN n := by
  obtain ⟨a, cap, rfl, hm, hc⟩ := h
  obtain ⟨a', cap', rfl, hm', hc'⟩ := h'
  unfold maxLen at hm hm'
  have HC := Lib.hid hc
  have HC' := Lib.hid hc'
  clear hc hc'
  by_cases hl : l.length = l'.length
  · have hl1 : ((l.length : Int) != (l'.length : Int)) = false := by simp [hl]
    go_enter Try.func33, Try.ntmps33
    go_wp2_with fail
    go_loopw [5] (fun i wr => ∃ k n : Nat, k ≤ l.length ∧ i = .int .i64 k ∧ Hid (l.take k = l'.take k) ∧ wr = w.drewN n) (fun i _ => l.length - (intOf i).toNat)
    case atStart => exact ⟨0, 0, by omega, rfl, Lib.hid (by simp), rfl⟩
    case round =>
      obtain ⟨k, n, hk, rfl, hT, rfl⟩ := hrel
      by_cases hlt : k < l.length
      · obtain ⟨b, off, rfl, hcs⟩ := HC.out (by intro h; rw [h] at hlt; simp at hlt)
        obtain ⟨b', off', rfl, hcs'⟩ := HC'.out (by intro h; rw [h] at hl; simp at hl; rw [hl] at hlt; simp at hlt)
        have hx := hcs k _ (getD_of hlt)
        have hlt' : k < l'.length := by omega
        have hx' := hcs' k _ (getD_of hlt')
        have HE := Lib.hid (take_eq_iff k hlt hlt' hT.out)
        clear hcs hcs'
        obtain ⟨wq, hwq⟩ : ∃ wq, w.drewN n = wq := ⟨_, rfl⟩
        have hx2 : wq.cell? ⟨b, off + k, none⟩ = some (.int .i64 (l.getD k 0)) := by rw [← hwq]; exact hx
        have hx3 : wq.cell? ⟨b', off' + k, none⟩ = some (.int .i64 (l'.getD k 0)) := by rw [← hwq]; exact hx'
        have hNE := Lib.hid (show l.getD k 0 ≠ l'.getD k 0 → ¬ l = l' from fun hne e => hne (by rw [e]))
        rw [hwq]
        have HW := Lib.hid hwq
        clear hwq hx hx'
        generalize l.getD k 0 = x at *
        generalize l'.getD k 0 = y at *
        by_cases hxy : x = y
        · have e1 : (x != y) = false := by simp [hxy]
          have hT2 := Lib.hid (HE.out.2 hxy)
          subst hxy
          clear HE hNE
          go_wp2_with fail
          go_quiet (fail)
          go_wp2
          go_roundw
          case rel => exact ⟨k + 1, _, by omega, by go_num, hT2, by rw [← HW.out]; exact World.drewN_drewN _ _ _⟩
          case measure => simp [intOf]; omega
        · have e1 : (x != y) = true := by simp [hxy]
          have e2 : (x == y) = false := by simp [hxy]
          have hF := Lib.hid (hNE.out hxy)
          clear HE hNE
          go_wp2_with fail
          go_quiet (fail)
          go_wp2
          go_ret
          exact ⟨ret_bool (by rw [decide_eq_false hF.out]), _, by rw [← HW.out]; exact World.drewN_drewN _ _ _⟩
      · have hF := Lib.hid (show l = l' by have := hT.out; rwa [List.take_of_length_le (by omega), List.take_of_length_le (by omega)] at this)
        have hlt2 : l'.length ≤ k := by omega
        go_wp2
        go_ret
        exact ⟨ret_bool (by rw [decide_eq_true hF.out]), _, rfl⟩
  · have hl1 : ((l.length : Int) != (l'.length : Int)) = true := by simp; omega
    have hl2 : ((l.length : Int) == (l'.length : Int)) = false := by simp; omega
    have hF := Lib.hid (show ¬ l = l' from fun e => hl (by rw [e]))
    go_enter Try.func33, Try.ntmps33
    go_wp2
    go_ret
    exact ⟨ret_bool (by rw [decide_eq_false hF.out]), 0, rfl⟩
set_option maxRecDepth 100000 in
set_option maxHeartbeats 8000000 in
theorem ints_b (v u : Value) (l l' : List Int) (w : World) (h : IntsAt w v l) (h' : IntsAt w u l') :
    Calls Try.prog 33 #[v, u] w fun e w' => e = .returned (.bool (decide (l = l'))) ∧ Below w.heap.size w w' := by
  refine (ints_any v u l l' w h h').mono ?_
  rintro e w' ⟨rfl, n, rfl⟩
  exact ⟨rfl, below_drewN' _ _ _⟩
set_option maxRecDepth 100000 in
set_option maxHeartbeats 8000000 in
theorem order_any (s v : Int) (w : World) :
    Calls Try.prog 36 #[.int .i64 s, .int .i64 v] w fun e w' => e = .returned (.agg #[.int .i64 s, .int .i64 0, .int .i64 0, .int .i64 v]) ∧ Below w.heap.size w w' := by
  have HC := Lib.hid (Cs.new w w.heap.size #[.int .i64 0, .int .i64 0, .int .i64 0, .int .i64 0] 27 rfl)
  have HB := Lib.hid (al w (.cells #[.int .i64 0, .int .i64 0, .int .i64 0, .int .i64 0] 27))
  go_enter Try.func36, Try.ntmps36
  go_wp2
  exact bodyPost_ret (v := .agg #[.int .i64 s, .int .i64 0, .int .i64 0, .int .i64 v]) (by simp [results, Try.results36, go_sem]) rfl ⟨rfl, al _ _⟩
set_option maxRecDepth 100000 in
set_option maxHeartbeats 8000000 in
theorem can_any (u s : Value) (zs : List Int) (x : Int) (w : World) (h : IntsAt w u zs) (h9 : zs.length ≤ 100000) :
    Calls Try.prog 20 #[.agg #[u, s], .int .i64 x] w fun e w' => e = .returned (.bool (zs.contains x)) ∧ Below w.heap.size w w' := by
  have HC := Lib.hid (Cs.new w w.heap.size #[u, s] 25 rfl)
  have HB := Lib.hid (al w (.cells #[u, s] 25))
  have HI := Lib.hid (h.step HB.out)
  clear h
  go_enter Try.func20, Try.ntmps20
  go_wp2_with fail
  refine (contains_own u zs x _ HI.out h9).mono ?_
  rintro e w' ⟨rfl, rfl⟩
  go_wp2
  go_ret
  exact ⟨by simp, HB.out⟩
set_option maxRecDepth 100000 in
set_option maxHeartbeats 8000000 in
theorem surely_any (u s : Value) (zs : List Int) (w : World) (h : IntsAt w u zs) (h9 : zs.length ≤ 100000) :
    Calls Try.prog 17 #[.agg #[u, s]] w fun e w' => e = .returned (.tuple #[.int .i64 (if zs.length = 1 then zs.getD 0 0 else 0), .bool (decide (zs.length = 1))]) ∧ Below w.heap.size w w' := by
  have HB := Lib.hid (al w (.cells #[u, s] 25))
  have HI := Lib.hid (h.step HB.out)
  obtain ⟨a, cap, rfl, -, -⟩ := h
  by_cases h1 : zs.length = 1
  · obtain ⟨y, rfl⟩ := List.length_eq_one_iff.1 h1
    obtain ⟨a2, cap2, e2, -, hc⟩ := HI.out
    obtain ⟨b, off, hb, hx⟩ := hc (by simp)
    obtain rfl : a = a2 := by simp at e2; exact e2.1
    subst hb
    have q := hx 0 y rfl
    rw [Nat.add_zero] at q
    have qz := World.block_lt_of_cell? _ _ q
    clear hc hx e2 h1
    simp only [List.length_singleton] at q qz HB ⊢
    go_enter Try.func17, Try.ntmps17
    go_wp2
    exact bodyPost_ret (v := .tuple #[.int .i64 y, .bool true]) (by simp [results, Try.results17, go_sem]) rfl (by exact ⟨by simp, HB.out⟩)
  · have e1 : ((zs.length : Int) != 1) = true := by simp; omega
    have e2 : ((zs.length : Int) == 1) = false := by simp; omega
    rw [if_neg h1, decide_eq_false h1]
    go_enter Try.func17, Try.ntmps17
    go_wp2
    exact bodyPost_ret (v := .tuple #[.int .i64 0, .bool false]) (by simp [results, Try.results17, go_sem]) rfl (by exact ⟨by simp, HB.out⟩)
open Go.RowKit

def kM (v : Int) : List Od := if inr v 0 15 = true then [⟨-1, 0, -1, v⟩] else []
def kV (v : Int) : List Int := if inr v 0 15 = true then [v] else []
theorem vof_one (x : Od) : vof [x] = [x.d] := by
  unfold vof
  rw [List.map_singleton, List.mergeSort_singleton]
  rfl
/-- A belief is returned. -/
def ChK (V : List Int) (M : List Od) (w : World) (e : Ending) (w' : World) : Prop :=
  ∃ (ua : Option Addr) (uc : Nat) (fa : Option Addr) (fc : Nat), e = .returned (.agg #[.slice ua V.length uc, .slice fa M.length fc]) ∧ Below w.heap.size w w' ∧ Rb V M ua uc fa fc w'
set_option maxRecDepth 100000 in
set_option maxHeartbeats 8000000 in
theorem known_any (v : Int) (w : World) : Calls Try.prog 22 #[.int .i64 v] w (ChK (kV v) (kM v) w) := by
  have HR0 := Lib.hid (Cs.new w w.heap.size #[.slice none 0 0, .slice none 0 0] 25 rfl)
  have HB0 := Lib.hid (al w (.cells #[.slice none 0 0, .slice none 0 0] 25))
  cases hv : inr v 0 15
  · unfold kV kM
    rw [hv]
    go_enter Try.func22, Try.ntmps22
    go_wp2_with fail
    refine (within_any _ _ _ _).mono ?_
    rintro e y ⟨rfl, b⟩
    rw [hv]
    have HB1 := Lib.hid (keep2 b HB0.out)
    have HR1 := Lib.hid (HR0.out.step b)
    clear b
    have g0 := HR1.out.f 0 (by simp)
    have g1 := HR1.out.f 1 (by simp)
    have c0 := HR1.out.c 0 rfl
    have c1 := HR1.out.c 1 rfl
    have sz := HR1.out.2.2
    go_wp2
    refine (fun (h : ∀ X : World, Cs X w.heap.size #[.slice none 0 0, .slice none 0 0] → Chg w.heap.size y X → bodyPost Try.prog Try.f22 _ Exit.ret _ X) => h _ (Cs.set (Cs.set HR1.out 0 (by simp) (.slice none 0 0) rfl) 1 (by simp) (.slice none 0 0) (vs' := #[.slice none 0 0, .slice none 0 0]) rfl) (((Chg.of (Below.refl _ y)).set 0 _).set 1 _)) ?_
    intro X hC hB
    have k0 : X.cell? ⟨w.heap.size, 0, none⟩ = some (.slice none 0 0) := hC.c 0 rfl
    have k1 : X.cell? ⟨w.heap.size, 1, none⟩ = some (.slice none 0 0) := hC.c 1 rfl
    exact bodyPost_ret (v := .agg #[.slice none 0 0, .slice none 0 0]) (by simp [results, Try.results22, go_sem, k0, k1]) rfl ⟨none, 0, none, 0, rfl, HB1.out.trans (hB.below (by omega) HB1.out.size), ints_nil _, ods_nil _⟩
  · obtain ⟨M, hM⟩ : ∃ M, kM v = M := ⟨_, rfl⟩
    obtain ⟨V, hVV⟩ : ∃ V, kV v = V := ⟨_, rfl⟩
    have HM := Lib.hid (show M = [⟨-1, 0, -1, v⟩] by rw [← hM]; unfold kM; rw [hv]; rfl)
    have HVV := Lib.hid (show vof M = V by rw [HM.out, vof_one, ← hVV]; unfold kV; rw [hv]; rfl)
    have HML := Lib.hid (show M.length = 1 by rw [HM.out]; rfl)
    rw [hM, hVV]
    clear hM hVV
    go_enter Try.func22, Try.ntmps22
    go_wp2_with fail
    refine (within_any _ _ _ _).mono ?_
    rintro e y ⟨rfl, b⟩
    rw [hv]
    clear hv
    have HB1 := Lib.hid (keep2 b HB0.out)
    have HR1 := Lib.hid (HR0.out.step b)
    clear b HB0 HR0
    have HK2 := Lib.hid (Cs.new y y.heap.size #[.slice none 0 0, .slice none 0 0] 73 rfl)
    have HB2 := Lib.hid (keep2 (al y (.cells #[.slice none 0 0, .slice none 0 0] 73)) HB1.out)
    have HR2 := Lib.hid (HR1.out.alloc (.cells #[.slice none 0 0, .slice none 0 0] 73))
    obtain ⟨w2, hw2⟩ : ∃ z, (y.alloc (.cells #[.slice none 0 0, .slice none 0 0] 73)).alloc (.cells #[.int .i64 (-1), .int .i64 0, .int .i64 (-1), .int .i64 v] 27) = z := ⟨_, rfl⟩
    have HO3 := Lib.hid (show Cs w2 (y.heap.size + 1) #[.int .i64 (-1), .int .i64 0, .int .i64 (-1), .int .i64 v] by rw [← hw2]; exact Cs.new _ _ _ _ (by simp))
    have HB3 := Lib.hid (show Below w.heap.size w w2 by rw [← hw2]; exact keep2 (al _ _) HB2.out)
    have HK3 := Lib.hid (show Cs w2 y.heap.size #[.slice none 0 0, .slice none 0 0] by rw [← hw2]; exact HK2.out.alloc _)
    have HR3 := Lib.hid (show Cs w2 w.heap.size #[.slice none 0 0, .slice none 0 0] by rw [← hw2]; exact HR2.out.alloc _)
    have HOD := Lib.hid (show OdsAt w2 (.slice (some ⟨y.heap.size + 1, 0, none⟩) M.length 1) M by
      rw [HM.out]
      refine ⟨_, 1, rfl, by simp, by unfold maxLen; simp, fun _ => ⟨y.heap.size + 1, 0, rfl, fun i x hi => ?_⟩⟩
      rcases i with _ | i
      · cases hi; exact ⟨HO3.out.c 0 rfl, HO3.out.c 1 rfl, HO3.out.c 2 rfl, HO3.out.c 3 rfl⟩
      · cases hi)
    have HBC := Lib.hid (become_any y.heap.size (.slice none 0 0) (.slice none 0 0) (some ⟨y.heap.size + 1, 0, none⟩) 1 M w2 HK3.out HOD.out (by rw [HML.out]; omega))
    rw [HML.out] at HBC
    have HW2 := Lib.hid hw2
    clear hw2
    go_wp2_with fail
    rw [HW2.out]
    refine HBC.out.mono ?_
    rintro e w4 ⟨rfl, ⟨ua, uc, hc, hi, hu⟩, hg⟩
    rw [HVV.out] at hc hi
    have HBB := Lib.hid (HB3.out.trans (hg.below (show w.heap.size ≤ y.heap.size from HB1.out.size) HB3.out.size))
    have HR4 := Lib.hid (hg.cs (show w.heap.size ≠ y.heap.size by have := HR1.out.2.2; omega) HR3.out)
    have HOE := Lib.hid (hg.ods (fun g o e => by cases e; omega) HOD.out)
    have HIU := Lib.hid hi
    have HUU := Lib.hid hu
    have HKC := Lib.hid hc
    have HLT := Lib.hid (show w.heap.size < w2.heap.size from HR3.out.2.2)
    clear hc hi hu hg HBC
    have c0 := HKC.out.c 0 rfl
    have c1 := HKC.out.c 1 rfl
    have cz := HKC.out.2.2
    have d0 := HR4.out.c 0 rfl
    have d1 := HR4.out.c 1 rfl
    have g0 := HR4.out.f 0 (by simp)
    have g1 := HR4.out.f 1 (by simp)
    have sz := HR4.out.2.2
    go_wp2
    refine (fun (h : ∀ X : World, Cs X w.heap.size #[.slice ua V.length uc, .slice (some ⟨y.heap.size + 1, 0, none⟩) 1 1] → Chg w.heap.size w4 X → bodyPost Try.prog Try.f22 _ Exit.ret _ X) => h _ (Cs.set (Cs.set HR4.out 0 (by simp) (.slice ua V.length uc) rfl) 1 (by simp) (.slice (some ⟨y.heap.size + 1, 0, none⟩) 1 1) (vs' := #[.slice ua V.length uc, .slice (some ⟨y.heap.size + 1, 0, none⟩) 1 1]) rfl) (((Chg.of (Below.refl _ w4)).set 0 _).set 1 _)) ?_
    intro X hC hB
    have k0 : X.cell? ⟨w.heap.size, 0, none⟩ = some (.slice ua V.length uc) := hC.c 0 rfl
    have k1 : X.cell? ⟨w.heap.size, 1, none⟩ = some (.slice (some ⟨y.heap.size + 1, 0, none⟩) 1 1) := hC.c 1 rfl
    exact bodyPost_ret (v := .agg #[.slice ua V.length uc, .slice (some ⟨y.heap.size + 1, 0, none⟩) 1 1]) (by simp [results, Try.results22, go_sem, k0, k1]) rfl ⟨ua, uc, some ⟨y.heap.size + 1, 0, none⟩, 1, by rw [HML.out], HBB.out.trans (hB.below (by omega) HBB.out.size), hB.ints (fun g o e => by have := HUU.out g o e; have := HLT.out; omega) HIU.out, by
      have h := hB.ods (fun g o e => by cases e; have := HB1.out.size; omega) HOE.out
      exact h⟩

theorem lt_ext : ∀ (l m : List Int), l.Pairwise (· < ·) → m.Pairwise (· < ·) → (∀ x, x ∈ l ↔ x ∈ m) → l = m := by
  intro l
  induction l with
  | nil =>
    intro m _ _ h
    cases m with
    | nil => rfl
    | cons y m => exact absurd ((h y).2 (by simp)) (by simp)
  | cons x l ih =>
    intro m hl hm h
    cases m with
    | nil => exact absurd ((h x).1 (by simp)) (by simp)
    | cons y m =>
      rw [List.pairwise_cons] at hl hm
      have hxy : x = y := by
        have h1 := (h x).1 (by simp)
        have h2 := (h y).2 (by simp)
        rcases List.mem_cons.1 h1 with e | h1
        · exact e
        · rcases List.mem_cons.1 h2 with e | h2
          · exact e.symm
          · have := hm.1 x h1
            have := hl.1 y h2
            omega
      subst hxy
      rw [ih m hl.2 hm.2 fun z => ?_]
      have hz := h z
      simp only [List.mem_cons] at hz
      constructor
      · intro hzl
        have := hl.1 z hzl
        rcases hz.1 (.inr hzl) with e | h
        · omega
        · exact h
      · intro hzm
        have := hm.1 z hzm
        rcases hz.2 (.inr hzm) with e | h
        · omega
        · exact h
theorem comp_up (d : Array Int) (hs : ∀ i j, i ≤ j → j < d.size → d[i]! ≤ d[j]!) : ∀ m, m ≤ d.size → (Lib.compactUpTo d m).Pairwise (· < ·) ∧ ∀ x, x ∈ Lib.compactUpTo d m ↔ ∃ j, j < m ∧ d[j]! = x := by
  intro m
  induction m with
  | zero => intro _; exact ⟨by simp [Lib.compactUpTo], fun x => by simp [Lib.compactUpTo]⟩
  | succ m ih =>
    intro hm
    obtain ⟨h1, h2⟩ := ih (by omega)
    rw [Lib.compactUpTo_succ]
    cases hk : Lib.keeps d m
    · have hk' : ¬ (m = 0 ∨ d[m]! ≠ d[m - 1]!) := by
        intro h
        have : Lib.keeps d m = true := by unfold Lib.keeps; exact decide_eq_true h
        rw [hk] at this; cases this
      have hm0 : m ≠ 0 := fun e => hk' (.inl e)
      have he : d[m]! = d[m - 1]! := Decidable.not_not.1 fun e => hk' (.inr e)
      simp only [Bool.false_eq_true, if_false, List.append_nil]
      refine ⟨h1, fun x => ?_⟩
      rw [h2]
      constructor
      · rintro ⟨j, hj, e⟩; exact ⟨j, by omega, e⟩
      · rintro ⟨j, hj, e⟩
        by_cases hjm : j = m
        · subst hjm; exact ⟨j - 1, by omega, by rw [← he]; exact e⟩
        · exact ⟨j, by omega, e⟩
    · have hk' : m = 0 ∨ d[m]! ≠ d[m - 1]! := by
        unfold Lib.keeps at hk; exact of_decide_eq_true hk
      simp only [if_true]
      refine ⟨?_, fun x => ?_⟩
      · rw [List.pairwise_append]
        refine ⟨h1, by simp, fun a ha b hb => ?_⟩
        obtain rfl : b = d[m]! := by simpa using hb
        obtain ⟨j, hj, rfl⟩ := (h2 a).1 ha
        have e1 := hs j (m - 1) (by omega) (by omega)
        have e2 := hs (m - 1) m (by omega) (by omega)
        rcases hk' with e | e
        · omega
        · have : d[m]! ≠ d[m - 1]! := e
          omega
      · rw [List.mem_append, h2]
        constructor
        · rintro (⟨j, hj, e⟩ | h)
          · exact ⟨j, by omega, e⟩
          · exact ⟨m, by omega, (by simpa using h : x = d[m]!).symm⟩
        · rintro ⟨j, hj, e⟩
          by_cases hjm : j = m
          · subst hjm; right; rw [e]; simp
          · left; exact ⟨j, by omega, e⟩
theorem vof_prop (L : List Od) : (vof L).Pairwise (· < ·) ∧ ∀ x, x ∈ vof L ↔ ∃ o ∈ L, o.d = x := by
  unfold vof Lib.compact
  have hp := List.mergeSort_perm (L.map Od.d) (fun x y => decide (x ≤ y))
  have hs := List.pairwise_mergeSort (le := fun x y : Int => decide (x ≤ y)) (by intro a b c; simp; omega) (by intro a b; simp; omega) (L.map Od.d)
  generalize (L.map Od.d).mergeSort (fun x y => decide (x ≤ y)) = zs at *
  have hget : ∀ i, i < zs.length → zs.toArray[i]! = zs.getD i 0 := fun i hi => by simp [getElem!_pos, hi]
  obtain ⟨h1, h2⟩ := comp_up zs.toArray (fun i j hij hj => by
    have hj' : j < zs.length := by simpa using hj
    rw [hget i (by omega), hget j hj']
    by_cases e : i = j
    · subst e; omega
    · have := (List.pairwise_iff_getElem.1 hs) i j (by omega) hj' (by omega)
      have hii : i < zs.length := by omega
      simp [hj', hii]
      simpa using this) zs.length (by simp)
  refine ⟨h1, fun x => ?_⟩
  rw [h2]
  have : (∃ o ∈ L, o.d = x) ↔ x ∈ zs := by rw [hp.mem_iff, List.mem_map]
  rw [this]
  constructor
  · rintro ⟨j, hj, e⟩
    rw [hget j hj] at e
    rw [← e]
    simp [hj]
  · intro hx
    obtain ⟨j, hj, e⟩ := List.getElem_of_mem hx
    exact ⟨j, hj, by rw [hget j hj]; simp [hj, e]⟩
/-- The reference's values. -/
def rvl (L : List Od) : List Int := ((List.range 16).map fun n : Nat => (n : Int)).filter fun v => L.any fun o => decide (o.d = v)
theorem rvl_prop (L : List Od) : (rvl L).Pairwise (· < ·) ∧ ∀ x, x ∈ rvl L ↔ (0 ≤ x ∧ x < 16) ∧ ∃ o ∈ L, o.d = x := by
  unfold rvl
  refine ⟨?_, fun x => ?_⟩
  · refine List.Pairwise.filter _ ?_
    decide
  · rw [List.mem_filter, List.mem_map]
    constructor
    · rintro ⟨⟨n, hn, rfl⟩, h⟩
      rw [List.mem_range] at hn
      refine ⟨⟨by omega, by omega⟩, ?_⟩
      rw [List.any_eq_true] at h
      obtain ⟨o, ho, h⟩ := h
      exact ⟨o, ho, of_decide_eq_true h⟩
    · rintro ⟨⟨h1, h2⟩, o, ho, rfl⟩
      refine ⟨⟨o.d.toNat, by rw [List.mem_range]; omega, by omega⟩, ?_⟩
      rw [List.any_eq_true]
      exact ⟨o, ho, by simp⟩
theorem vof_rvl {L : List Od} (h : ∀ o ∈ L, 0 ≤ o.d ∧ o.d < 16) : vof L = rvl L := by
  refine lt_ext _ _ (vof_prop L).1 (rvl_prop L).1 fun x => ?_
  rw [(vof_prop L).2, (rvl_prop L).2]
  constructor
  · rintro ⟨o, ho, rfl⟩; exact ⟨h o ho, o, ho, rfl⟩
  · rintro ⟨-, h⟩; exact h
theorem wk_val : ∀ (L : List Od) (l : Od), wk l L = true → ∀ x ∈ L, okR x = true := by
  intro L
  induction L with
  | nil => intro l _ x hx; cases hx
  | cons y L ih =>
    intro l h x hx
    unfold wk at h
    rw [Bool.and_eq_true] at h
    rcases List.mem_cons.1 hx with rfl | hx
    · exact h.1
    · by_cases hs : stB y = true
      · rw [if_pos hs] at h; exact ih _ h.2 x hx
      · rw [if_neg hs, Bool.and_eq_true] at h; exact ih _ h.2.2 x hx
theorem okR_d {x : Od} (h : okR x = true) : 0 ≤ x.d ∧ x.d < 16 := by
  unfold okR at h
  simp only [Bool.and_eq_true, inr_iff] at h
  omega
/-- Well-formed, with the reference's values. -/
def isW (V : List Int) (L : List Od) : Bool := decide ((flt L).length ≤ 8) && decide (L.length ≤ 20) && L.any stB && wk l0 L && (V == rvl L)
theorem isV_W (V : List Int) (L : List Od) : isV V L = isW V L := by
  unfold isV isW
  cases hw : wk l0 L
  · simp
  · rw [vof_rvl fun o ho => okR_d (wk_val L l0 hw o ho)]
open Go.RowKit

theorem snE_W (V : List Int) (L : List Od) (o : Od) : snE V L o = if isW V L = true then sdE L o else 1 := by unfold snE; rw [isV_W]
theorem cnE_W (V : List Int) (L : List Od) (q : Int) : cnE V L q = if isW V L = true then cfE q L else 1 := by unfold cnE; rw [isV_W]
theorem rnE_W (V : List Int) (L : List Od) (v t : Int) : rnE V L v t = if isW V L = true then rpE V L v t else 1 := by unfold rnE; rw [isV_W]
theorem rV_W {E : Int} {M : List Od} (hE : E = 0) (h : ∀ o ∈ M, 0 ≤ o.d ∧ o.d < 16) : rV E M = rvl M := by unfold rV; rw [if_pos hE, vof_rvl h]
theorem rM_W {E : Int} (M : List Od) (hE : E = 0) : rM E M = M := by unfold rM; rw [if_pos hE]
def mA : List Od := kM 0 ++ [⟨1, 0, 0, 2⟩]
def vA : List Int := rvl mA
def mB : List Od := mA ++ [⟨2, 0, 0, 3⟩]
def vB : List Int := rvl mB
def mC : List Od := cfM 2 mB
def vC : List Int := rvl mC
def mD : List Od := cfM 1 mC
def vD : List Int := rvl mD
def mX : List Od := cfM 1 mA
def vX : List Int := rvl mX
def mY : List Od := mA ++ [⟨17, 0, 0, 3⟩]
def vY : List Int := rvl mY
def mZ : List Od := cfM 17 mY
def vZ : List Int := rvl mZ
def mW : List Od := rpM mB 3 2
def vW : List Int := rvl mW
theorem mlen : ((kM 0).length ≤ 300 ∧ (kV 0).length ≤ 300 ∧ mA.length ≤ 300 ∧ vA.length ≤ 300) ∧ mB.length ≤ 300 ∧ vB.length ≤ 300 ∧ mC.length ≤ 300 ∧ vC.length ≤ 300 ∧ mY.length ≤ 300 ∧ vY.length ≤ 300 := by decide +kernel
theorem vals : (vA = [0, 2] ∧ vB = [0, 2, 3] ∧ vC = [2, 3] ∧ vD = [2, 3]) ∧ vX = [2] ∧ vZ = [3] ∧ vW = [3] ∧ mD.length = 2 := by decide +kernel
theorem head_a (w : World) (ua : Option Addr) (uc : Nat) (fa : Option Addr) (fc : Nat) (h : Rb (kV 0) (kM 0) ua uc fa fc w) :
    Calls Try.prog 11 #[.agg #[.slice ua (kV 0).length uc, .slice fa (kM 0).length fc], .agg #[.int .i64 1, .int .i64 0, .int .i64 0, .int .i64 2]] w (ChQ vA mA 0 w) :=
  sent_q ⟨1, 0, 0, 2⟩ (by rw [snE_W]; decide +kernel) (rV_W rfl (by decide +kernel)) (rM_W _ rfl) ua uc fa fc w h mlen.1.1 mlen.1.2.1
theorem head_b (w : World) (ua : Option Addr) (uc : Nat) (fa : Option Addr) (fc : Nat) (h : Rb vA mA ua uc fa fc w) :
    Calls Try.prog 11 #[.agg #[.slice ua vA.length uc, .slice fa mA.length fc], .agg #[.int .i64 2, .int .i64 0, .int .i64 0, .int .i64 3]] w (ChQ vB mB 0 w) :=
  sent_q ⟨2, 0, 0, 3⟩ (by rw [snE_W]; decide +kernel) (rV_W rfl (by decide +kernel)) (rM_W _ rfl) ua uc fa fc w h mlen.1.2.2.1 mlen.1.2.2.2
theorem head_y (w : World) (ua : Option Addr) (uc : Nat) (fa : Option Addr) (fc : Nat) (h : Rb vA mA ua uc fa fc w) :
    Calls Try.prog 11 #[.agg #[.slice ua vA.length uc, .slice fa mA.length fc], .agg #[.int .i64 17, .int .i64 0, .int .i64 0, .int .i64 3]] w (ChQ vY mY 0 w) :=
  sent_q ⟨17, 0, 0, 3⟩ (by rw [snE_W]; decide +kernel) (rV_W rfl (by decide +kernel)) (rM_W _ rfl) ua uc fa fc w h mlen.1.2.2.1 mlen.1.2.2.2
theorem head_c (w : World) (ua : Option Addr) (uc : Nat) (fa : Option Addr) (fc : Nat) (h : Rb vB mB ua uc fa fc w) :
    Calls Try.prog 13 #[.agg #[.slice ua vB.length uc, .slice fa mB.length fc], .int .i64 2] w (ChQ vC mC 0 w) :=
  confirmed_q 2 (by rw [cnE_W]; decide +kernel) (rV_W rfl (by decide +kernel)) (rM_W _ rfl) ua uc fa fc w h mlen.2.1 mlen.2.2.1
theorem head_d (w : World) (ua : Option Addr) (uc : Nat) (fa : Option Addr) (fc : Nat) (h : Rb vC mC ua uc fa fc w) :
    Calls Try.prog 13 #[.agg #[.slice ua vC.length uc, .slice fa mC.length fc], .int .i64 1] w (ChQ vD mD 0 w) :=
  confirmed_q 1 (by rw [cnE_W]; decide +kernel) (rV_W rfl (by decide +kernel)) (rM_W _ rfl) ua uc fa fc w h mlen.2.2.2.1 mlen.2.2.2.2.1
theorem head_x (w : World) (ua : Option Addr) (uc : Nat) (fa : Option Addr) (fc : Nat) (h : Rb vA mA ua uc fa fc w) :
    Calls Try.prog 13 #[.agg #[.slice ua vA.length uc, .slice fa mA.length fc], .int .i64 1] w (ChQ vX mX 0 w) :=
  confirmed_q 1 (by rw [cnE_W]; decide +kernel) (rV_W rfl (by decide +kernel)) (rM_W _ rfl) ua uc fa fc w h mlen.1.2.2.1 mlen.1.2.2.2
theorem head_z (w : World) (ua : Option Addr) (uc : Nat) (fa : Option Addr) (fc : Nat) (h : Rb vY mY ua uc fa fc w) :
    Calls Try.prog 13 #[.agg #[.slice ua vY.length uc, .slice fa mY.length fc], .int .i64 17] w (ChQ vZ mZ 0 w) :=
  confirmed_q 17 (by rw [cnE_W]; decide +kernel) (rV_W rfl (by decide +kernel)) (rM_W _ rfl) ua uc fa fc w h mlen.2.2.2.2.2.1 mlen.2.2.2.2.2.2
theorem head_m (w : World) (ua : Option Addr) (uc : Nat) (fa : Option Addr) (fc : Nat) (h : Rb vA mA ua uc fa fc w) :
    Calls Try.prog 13 #[.agg #[.slice ua vA.length uc, .slice fa mA.length fc], .int .i64 2] w (ChQ [] [] 27 w) :=
  confirmed_q 2 (by rw [cnE_W]; decide +kernel) (by rfl) (by rfl) ua uc fa fc w h mlen.1.2.2.1 mlen.1.2.2.2
theorem head_w (w : World) (ua : Option Addr) (uc : Nat) (fa : Option Addr) (fc : Nat) (h : Rb vB mB ua uc fa fc w) :
    Calls Try.prog 15 #[.agg #[.slice ua vB.length uc, .slice fa mB.length fc], .int .i64 3, .int .i64 2] w (ChQ vW mW 0 w) :=
  reported_q 3 2 (by rw [rnE_W]; decide +kernel) (rV_W rfl (by decide +kernel)) (rM_W _ rfl) ua uc fa fc w h mlen.2.1 mlen.2.2.1
theorem head_s (w : World) (ua : Option Addr) (uc : Nat) (s : Value) (h : IntsAt w (.slice ua vZ.length uc) vZ) :
    Calls Try.prog 17 #[.agg #[.slice ua vZ.length uc, s]] w fun e w' => e = .returned (.tuple #[.int .i64 3, .bool true]) ∧ Below w.heap.size w w' := by
  refine (surely_any _ s vZ w h (by rw [vals.2.2.1]; decide)).mono ?_
  rintro e w' ⟨rfl, b⟩
  exact ⟨by rw [vals.2.2.1]; rfl, b⟩
theorem head_i (u v : Value) (V V' : List Int) (w : World) (e : V = V') (h : IntsAt w u V) (h' : IntsAt w v V') : Calls Try.prog 33 #[u, v] w fun e w' => e = .returned (.bool true) ∧ Below w.heap.size w w' := by
  refine (ints_b u v V V' w h h').mono ?_
  rintro e w' ⟨rfl, b⟩
  exact ⟨by rw [decide_eq_true e], b⟩
theorem head_n (u s : Value) (x : Int) (r : Bool) (w : World) (hr : vC.contains x = r) (h : IntsAt w u vC) : Calls Try.prog 20 #[.agg #[u, s], .int .i64 x] w fun e w' => e = .returned (.bool r) ∧ Below w.heap.size w w' := by
  refine (can_any u s vC x w h (by rw [vals.1.2.2.1]; decide)).mono ?_
  rintro e w' ⟨rfl, b⟩
  exact ⟨by rw [hr], b⟩
theorem ints_w {w : World} {l : List Int} {cs : Array Value} (hc : cs.toList = l.map (.int .i64)) (hm : l.length ≤ 1000) {n : Nat} (hn : n = l.length) {b : Nat} (hb : Cs w b cs) : IntsAt w (.slice (some ⟨b, 0, none⟩) n n) l := by
  subst hn
  refine ⟨_, _, rfl, by unfold maxLen; omega, fun _ => ⟨b, 0, rfl, fun i x hi => ?_⟩⟩
  rw [Nat.zero_add]
  refine hb.c i ?_
  rw [← Array.getElem?_toList, hc, List.getElem?_map, hi]
  rfl
end Go.Proofs.Ytolinnmhdclgpaa
