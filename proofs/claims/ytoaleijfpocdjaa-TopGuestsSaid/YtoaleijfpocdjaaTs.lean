/- Guests: a capability that is minted and narrowed. -/
import Derived.Test.YtoaleijfpocdjaaTa
namespace Go.Proofs.Ytoaleijfpocdjaa
open Go.RowKit

theorem BoxN.set {w : World} {b : Nat} {vs : Array Value} {t : TypeId} (h : BoxN w b vs t) (j : Nat) (x : Value) {vs' : Array Value} (hv : vs.setIfInBounds j x = vs') : BoxN (w.setCell ⟨b, j, none⟩ x) b vs' t := by
  subst hv
  have h' : w.heap[b]? = some (.cells vs t (0, 0)) := h
  have hl := h.lt
  have h2 : w.heap[b] = .cells vs t (0, 0) := by simpa [Array.getElem?_eq_getElem hl] using h'
  show (w.heap.modify b _)[b]? = _
  rw [Array.getElem?_eq_getElem (by simpa using hl), Array.getElem_modify_self, h2]
  rfl
/-- A region with one store: which facts hold until it, and behind it. -/
def NS (lit : (Nat → Value) → Act) (s : Nat) (nd : Nat → Bool) (G : Bool → Nat → Value → World → Prop) (B : Bool → World → Prop) (bf : Nat → Bool) (ac : Act) (wv : World) : Prop :=
  ∃ vs, ac = lit vs ∧ (bf s = true → ∀ i, nd i = true → bf i = true) ∧ B (bf s) wv ∧ ∀ i, bf i = true → G (bf s) i (vs i) wv
variable {lit : (Nat → Value) → Act} {s : Nat} {nd : Nat → Bool} {G : Bool → Nat → Value → World → Prop} {B : Bool → World → Prop}
theorem NS.start {ac : Act} {wv : World} (vs : Nat → Value) (hac : ac = lit vs) (hb : B false wv) : NS lit s nd G B (fun _ => false) ac wv :=
  ⟨vs, hac, fun h => (by cases h), hb, fun i h => (by cases h)⟩
theorem NS.next {bf : Nat → Bool} {wv : World} {vs : Nat → Value} (i : Nat) (hi : s ≠ i) {x : Value} {w' : World} {ac' : Act} (hac : ac' = lit (upv vs i x))
    (k : (bf s = true → ∀ i, nd i = true → bf i = true) ∧ ∀ i, bf i = true → G (bf s) i (vs i) wv) (hb : B (bf s) w') (hs : ∀ k v, G (bf s) k v wv → G (bf s) k v w') (hx : G (bf s) i x w') : NS lit s nd G B (up bf i) ac' w' := by
  refine ⟨upv vs i x, hac, fun h j hj => ?_, by rw [up_ne _ _ _ hi]; exact hb, fun j hu => ?_⟩
  · rw [up_ne _ _ _ hi] at h
    have := k.1 h j hj
    unfold up
    rw [this]; simp
  · rw [up_ne _ _ _ hi]
    by_cases e : j = i
    · subst e; rw [upv_same]; exact hx
    · rw [up_ne _ _ _ e] at hu; rw [upv_ne _ _ _ _ e]; exact hs _ _ (k.2 j hu)
theorem NS.put {bf : Nat → Bool} {vs : Nat → Value} {w' : World} {ac' : Act} (hac : ac' = lit vs) (hn : ∀ i, nd i = true → bf i = true) (hb : B true w') (hs : ∀ k, k ≠ s → bf k = true → G true k (vs k) w') (hx : ∀ v, G true s v w') : NS lit s nd G B (up bf s) ac' w' := by
  refine ⟨vs, hac, fun _ j hj => ?_, by rw [up_same]; exact hb, fun j hu => ?_⟩
  · unfold up
    rw [hn j hj]; simp
  · rw [up_same]
    by_cases e : j = s
    · subst e; exact hx _
    · rw [up_ne _ _ _ e] at hu; exact hs j e hu
/-- A list of caveats lies elsewhere than a capability. -/
theorem cvs_box {w w' : World} {v : Value} {l : List Cv} {g : Nat} {x y : Int} {a : Option Addr} {n c : Nat} {t : TypeId} (h : CvsAt w v l) (hb : BoxN w g #[.int .i64 x, .slice a n c, .int .i64 y] t) (hk : ∀ b j, b ≠ g → w'.cell? ⟨b, j, none⟩ = w.cell? ⟨b, j, none⟩) : CvsAt w' v l := by
  obtain ⟨a1, cap, hv, h1, hm, hc⟩ := h
  refine ⟨a1, cap, hv, h1, hm, fun hl => ?_⟩
  obtain ⟨b, off, ha, hx⟩ := hc hl
  have hne : b ≠ g := by
    intro e
    subst e
    obtain ⟨y0, l2, rfl⟩ : ∃ y0 l2, l = y0 :: l2 := by
      cases l with
      | nil => exact absurd rfl hl
      | cons y0 l2 => exact ⟨y0, l2, rfl⟩
    obtain ⟨k1, k2⟩ := hx 0 y0 rfl
    rw [hb.cell] at k1 k2
    rcases off with _ | _ | _ | off
    · simp at k2
    · simp at k1
    · simp at k2
    · simp at k1
  exact ⟨b, off, ha, fun i x h => by rw [hk _ _ hne, hk _ _ hne]; exact hx i x h⟩
theorem set3 {w : World} {g : Nat} {x y z : Value} : ∀ b j, b ≠ g → (((w.setCell ⟨g, 0, none⟩ x).setCell ⟨g, 1, none⟩ y).setCell ⟨g, 2, none⟩ z).cell? ⟨b, j, none⟩ = w.cell? ⟨b, j, none⟩ := fun b j h => by
  have e1 : ∀ (W : World) (o : Nat) (u : Value), (W.setCell ⟨g, o, none⟩ u).heap[b]? = W.heap[b]? := fun W o u => Below.heap_setCell W ⟨g, o, none⟩ u b h
  simp only [World.cell?, e1]
theorem tk_take (t0 : Int) (l : List Cv) (k : Nat) : ∀ j, j ≤ k → tk t0 (l.take k) j = tk t0 l j
  | 0, _ => rfl
  | j + 1, h => by
    unfold tk
    rw [tk_take t0 l k j (by omega)]
    congr 1
    simp [List.getD, List.getElem?_take, show j < k by omega]
/-- Whether such a capability can be made. -/
def mdB (key id : Int) (l : List Cv) : Bool := mtB key id && (decide (l.length ≤ 12) && !l.any bad)
theorem mt_val (key id : Int) : ∃ i0 t0, mtV key id = .agg #[.int .i64 i0, .slice none 0 0, .int .i64 t0] ∧ (mtB key id = true → i0 = id ∧ t0 = tg0 key id) := by
  unfold mtV
  cases h : mtB key id
  · exact ⟨0, 0, rfl, fun h => by cases h⟩
  · exact ⟨id, tg0 key id, rfl, fun _ => ⟨rfl, rfl⟩⟩
theorem mt_id {key id : Int} (h : mtB key id = true) : inr key 0 2147483646 = true ∧ inr id 0 1000000 = true := by
  unfold mtB at h; simpa using h
/-- One caveat more. -/
theorem md_step {key id : Int} {l : List Cv} {k : Nat} (hk : k < l.length) (h : mtB key id = true) (h2 : k ≤ 12) (h3 : ∀ j, j < k → bad (l.getD j zC) = false) :
    (nrE id (tk (tg0 key id) l k) (l.take k) (l.getD k zC).k (l.getD k zC).v = 0 → k + 1 ≤ 12 ∧ ∀ j, j < k + 1 → bad (l.getD j zC) = false) ∧
    (nrE id (tk (tg0 key id) l k) (l.take k) (l.getD k zC).k (l.getD k zC).v ≠ 0 → mdB key id l = false) := by
  have hc : capB id (tk (tg0 key id) l k) (l.take k) = true := by
    unfold capB
    rw [(mt_id h).2]
    have hb := tk_bd key id l k
    rw [inr_iff.2 ⟨hb.1, by omega⟩]
    have hn : (l.take k).any bad = false := any_none fun j hj => by
      have hj2 : j < k := by simpa using (show j < min k l.length by simpa using hj : j < min k l.length) |> fun h => Nat.lt_of_lt_of_le h (Nat.min_le_left _ _)
      have := h3 j hj2
      simpa [List.getD, List.getElem?_take, hj2] using this
    rw [hn]
    simp; omega
  have hl : (l.take k).length = k := by simp; omega
  unfold nrE
  rw [hc, hl]
  cases hv : cvB (l.getD k zC).k (l.getD k zC).v
  · refine ⟨fun h => by simp at h, fun _ => ?_⟩
    have := any_hit hk (show bad (l.getD k zC) = true by unfold bad; rw [hv]; rfl)
    unfold mdB; rw [this]; simp
  · by_cases h12 : k = 12
    · refine ⟨fun h => by simp [h12] at h, fun _ => ?_⟩
      unfold mdB
      rw [show decide (l.length ≤ 12) = false by simp; omega]; simp
    · refine ⟨fun _ => ⟨by omega, fun j hj => ?_⟩, fun h => absurd (by simp [h12]) h⟩
      by_cases e : j = k
      · subst e; unfold bad; rw [hv]; rfl
      · exact h3 j (by omega)
theorem md_end {key id : Int} {l : List Cv} (h : mtB key id = true → l.length ≤ 12 ∧ ∀ j, j < l.length → bad (l.getD j zC) = false) : mdB key id l = mtB key id := by
  unfold mdB
  cases h1 : mtB key id
  · rfl
  · rw [any_none (h h1).2]; simp [(h h1).1]
theorem take_more {l : List Cv} {k : Nat} (h : k < l.length) : l.take k ++ [l.getD k zC] = l.take (k + 1) := by
  rw [List.take_succ_eq_append_getElem h]; simp [h]
/-- A capability that 'Narrow' gave. -/
def PV (er i0 t1 : Int) (m : List Cv) (v : Value) (w : World) : Prop := ∃ iu u tu m', v = .agg #[.int .i64 iu, u, .int .i64 tu] ∧ CvsAt w u m' ∧ (er = 0 → iu = i0 ∧ tu = t1 ∧ m' = m)
theorem PV.step {er i0 t1 : Int} {m : List Cv} {v : Value} {w w1 : World} (h : PV er i0 t1 m v w) (hb : Below w.heap.size w w1) : PV er i0 t1 m v w1 := by
  obtain ⟨iu, u, tu, m', h1, h2, h3⟩ := h
  exact ⟨iu, u, tu, m', h1, h2.step hb, h3⟩
/-- A capability in a block. -/
def PB (er i0 t1 : Int) (m : List Cv) (g : Nat) (w : World) : Prop := ∃ iu u tu m', BoxN w g #[.int .i64 iu, u, .int .i64 tu] 30 ∧ CvsAt w u m' ∧ (er = 0 → iu = i0 ∧ tu = t1 ∧ m' = m)
theorem PB.step {er i0 t1 : Int} {m : List Cv} {g : Nat} {w w1 : World} (h : PB er i0 t1 m g w) (hb : Below w.heap.size w w1) : PB er i0 t1 m g w1 := by
  obtain ⟨iu, u, tu, m', h1, h2, h3⟩ := h
  exact ⟨iu, u, tu, m', h1.step hb, h2.step hb, h3⟩
/-- What comes up where a caveat is added. -/
def Gm (er i0 t1 : Int) (m : List Cv) (sv v0 v4 : Value) (k : Nat) (p : Addr) (n0 : Nat) : Bool → Nat → Value → World → Prop
  | _, 0, v, _ => v = v0
  | _, 1, v, _ => v = sv
  | _, 2, v, _ => v = .int .i64 k
  | _, 3, v, _ => v = .pointer (some p)
  | _, 4, v, _ => v = v4
  | d, 5, v, w => ∃ vr, v = .tuple #[vr, .int .i64 er] ∧ (d = false → PV er i0 t1 m vr w)
  | d, 6, v, w => ∃ vr, v = .tuple #[vr, .int .i64 er] ∧ (d = false → PV er i0 t1 m vr w)
  | d, 7, v, w => d = false → PV er i0 t1 m v w
  | _, 8, v, _ => v = .int .i64 er
  | d, 9, v, w => ∃ g, v = .pointer (some ⟨g, 0, none⟩) ∧ n0 ≤ g ∧ (d = false → BoxN w g #[.int .i64 0, .slice none 0 0, .int .i64 0] 30) ∧ (d = true → PB er i0 t1 m g w)
  | _, 11, v, _ => v = .int .i64 er
  | _, _, _, _ => True
theorem Gm.step {er i0 t1 : Int} {m : List Cv} {sv v0 v4 : Value} {k : Nat} {p : Addr} {n0 : Nat} {d : Bool} {w w1 : World} (hb : Below w.heap.size w w1) : ∀ j v, Gm er i0 t1 m sv v0 v4 k p n0 d j v w → Gm er i0 t1 m sv v0 v4 k p n0 d j v w1
  | 0, _, h => h
  | 1, _, h => h
  | 2, _, h => h
  | 3, _, h => h
  | 4, _, h => h
  | 5, _, ⟨vr, h1, h2⟩ => ⟨vr, h1, fun e => (h2 e).step hb⟩
  | 6, _, ⟨vr, h1, h2⟩ => ⟨vr, h1, fun e => (h2 e).step hb⟩
  | 7, _, h => fun e => PV.step (h e) hb
  | 8, _, h => h
  | 9, _, ⟨g, h1, h2, h3, h4⟩ => ⟨g, h1, h2, fun e => (h3 e).step hb, fun e => (h4 e).step hb⟩
  | 10, _, h => h
  | 11, _, h => h
  | _ + 12, _, h => h
theorem Gm.put {er i0 t1 : Int} {m : List Cv} {sv v0 v4 : Value} {k : Nat} {p : Addr} {n0 : Nat} {w w1 : World} : ∀ j v, j ≠ 9 → Gm er i0 t1 m sv v0 v4 k p n0 false j v w → Gm er i0 t1 m sv v0 v4 k p n0 true j v w1
  | 0, _, _, h => h
  | 1, _, _, h => h
  | 2, _, _, h => h
  | 3, _, _, h => h
  | 4, _, _, h => h
  | 5, _, _, ⟨vr, h1, _⟩ => ⟨vr, h1, fun e => by cases e⟩
  | 6, _, _, ⟨vr, h1, _⟩ => ⟨vr, h1, fun e => by cases e⟩
  | 7, _, _, _ => fun e => by cases e
  | 8, _, _, h => h
  | 9, _, h, _ => absurd rfl h
  | 10, _, _, _ => trivial
  | 11, _, _, h => h
  | _ + 12, _, _, _ => trivial
theorem z3box (w : World) : BoxN (w.alloc (.cells #[.int .i64 0, .slice none 0 0, .int .i64 0] 30)) w.heap.size #[.int .i64 0, .slice none 0 0, .int .i64 0] 30 := BoxN.new w _ _
theorem md_parts {key id : Int} {l : List Cv} (h : mdB key id l = true) : (0 ≤ key ∧ key ≤ 2147483646) ∧ capB id (tk (tg0 key id) l l.length) l = true ∧ gnB key id (tk (tg0 key id) l l.length) l = true := by
  have h0 := h
  unfold mdB at h
  simp only [Bool.and_eq_true, decide_eq_true_iff, Bool.not_eq_true'] at h
  obtain ⟨k1, k2⟩ := mt_id h.1
  have hb := tk_bd key id l l.length
  have hc : capB id (tk (tg0 key id) l l.length) l = true := capB_parts.2 ⟨inr_iff.1 k2, by omega, h.2.1, h.2.2⟩
  refine ⟨inr_iff.1 k1, hc, ?_⟩
  unfold gnB
  rw [k1, hc]; simp
/-- What the law's capability is. -/
def MD (key id : Int) (l : List Cv) (b : Bool) (vr : Value) (w : World) : Prop := ∃ i1 t1 sl m, vr = .agg #[.int .i64 i1, sl, .int .i64 t1] ∧ CvsAt w sl m ∧ (b = true → m = l ∧ gnB key i1 t1 l = true) ∧ (mdB key id l = true → b = true ∧ i1 = id ∧ t1 = tk (tg0 key id) l l.length ∧ m = l)
def MW (key id : Int) (l : List Cv) (bv vr : Value) (w w' : World) : Prop := ∃ b, bv = .bool b ∧ MD key id l b vr w' ∧ Below w.heap.size w w'
theorem mt_of {key id : Int} {l : List Cv} (h : mdB key id l = true) : mtB key id = true := by
  unfold mdB at h; simp only [Bool.and_eq_true] at h; exact h.1
set_option maxRecDepth 100000 in
set_option maxHeartbeats 4000000 in
theorem minted_any (key id : Int) (v : Value) (l : List Cv) (w : World) (h : CvsAt w v l) : Calls Try.prog 5 #[.int .i64 key, .int .i64 id, v] w fun e w' => ∃ bv vr, e = .returned (.tuple #[vr, bv]) ∧ MW key id l bv vr w w' := by
  have H := Lib.hid h
  obtain ⟨a, cap, rfl, hcp, hm, -⟩ := h
  unfold maxLen at hm
  clear hcp
  obtain ⟨i0, t0, hmt, hmi⟩ := mt_val key id
  replace hmi := Lib.hid hmi
  have HR0 := Lib.hid (z3box w)
  have HB0 := Lib.hid (Below.refl w.heap.size w)
  go_enter Try.func5, Try.ntmps5
  have KR_1 := Lib.hid (Cs.new w (w.heap.size) #[.int .i64 0, .slice none 0 0, .int .i64 0] 30 (by simp))
  have HB2 : Hid (Below w.heap.size w (w.alloc (.cells #[.int .i64 0, .slice none 0 0, .int .i64 0] 30))) := HB0.out.alloc HB0.out.size _
  clear HB0
  go_wp2_with fail
  refine (mint_any key id _).mono ?_
  rintro e u1 ⟨rfl, b1⟩
  rw [hmt]
  clear hmt
  have HR := Lib.hid (HR0.out.step b1)
  have HB := Lib.hid (keep2 b1 HB2.out)
  clear b1 HR0 HB2 KR_1
  go_wp2_with fail
  have HC0 := Lib.hid (BoxN.new u1 #[.int .i64 i0, .slice none 0 0, .int .i64 t0] 30)
  have HRC := Lib.hid (show w.heap.size < u1.heap.size from HR.out.lt)
  have HR1 := Lib.hid (HR.out.step (al _ (.cells #[.int .i64 i0, .slice none 0 0, .int .i64 t0] 30)))
  have HB1 := Lib.hid (HB.out.trans ((al u1 (.cells #[.int .i64 i0, .slice none 0 0, .int .i64 t0] 30)).mono HB.out.size))
  go_loopw [9] (fun i wr => ∃ (k : Nat) (sl : Value), k ≤ l.length ∧ i = .int .i64 k ∧ Hid (BoxN wr u1.heap.size #[.int .i64 i0, sl, .int .i64 (tk t0 l k)] 30) ∧ Hid (CvsAt wr sl (l.take k)) ∧ Hid (BoxN wr w.heap.size #[.int .i64 0, .slice none 0 0, .int .i64 0] 30) ∧ Hid (Below w.heap.size w wr) ∧ Hid (mtB key id = true → k ≤ 12 ∧ ∀ j, j < k → bad (l.getD j zC) = false)) (fun i _ => l.length - (intOf i).toNat)
  case atStart => exact ⟨0, .slice none 0 0, by omega, rfl, HC0.out, cvs_nil _, HR1.out, HB1.out, fun _ => ⟨by omega, fun j h => absurd h (by omega)⟩⟩
  case round =>
    clear HC0 HR HB HR1 HB1
    obtain ⟨k, sl, hk, rfl, HC, HS, HR, HB, HQ⟩ := hrel
    obtain ⟨sa, sc, rfl, -⟩ := HS.out
    obtain ⟨ln, hln⟩ : ∃ ln, (l.take k).length = ln := ⟨_, rfl⟩
    rw [hln] at HC HS
    have hl9 : k = l.length → ln = l.length := fun h => by rw [← hln, h]; simp
    have hlen : ln ≤ 2 ^ 63 - 1 := by rw [← hln]; simp; omega
    clear hln
    replace hl9 := Lib.hid hl9
    by_cases hlt : k < l.length
    · obtain ⟨a2, cap2, hva, -, -, hcs⟩ := H.out.step HB.out
      obtain ⟨rfl, rfl⟩ : a = a2 ∧ cap = cap2 := by simpa using hva
      obtain ⟨b, off, rfl, hcs2⟩ := hcs (by intro h; rw [h] at hlt; simp at hlt)
      obtain ⟨x0, x1⟩ := hcs2 k _ (cv_get hlt)
      clear hcs hcs2 hva
      have X0 := Lib.hid x0
      have X1 := Lib.hid x1
      clear x0 x1
      have HK1 := Lib.hid (show k + 1 ≤ l.length from hlt)
      obtain ⟨er, her⟩ : ∃ er, nrE i0 (tk t0 l k) (l.take k) (l.getD k zC).k (l.getD k zC).v = er := ⟨_, rfl⟩
      have HD := Lib.hid (show (mtB key id = true → er = 0 → k + 1 ≤ 12 ∧ ∀ j, j < k + 1 → bad (l.getD j zC) = false) ∧ (er ≠ 0 → mdB key id l = false) from by
              cases h : mtB key id
              · exact ⟨fun h => (by cases h), fun _ => by unfold mdB; rw [h]; rfl⟩
              · obtain ⟨rfl, rfl⟩ := hmi.out h
                have := md_step hlt h (HQ.out h).1 (HQ.out h).2
                rw [her] at this
                exact ⟨fun _ => this.1, this.2⟩)
      have HN := Lib.hid (fun W (h : CvsAt W (.slice sa ln sc) (l.take k)) => (narrow_any i0 (tk t0 l k) (l.getD k zC).k (l.getD k zC).v _ _ W h).mono (R' := fun e w' => ∃ vr, e = .returned (.tuple #[vr, .int .i64 er]) ∧ Below W.heap.size W w' ∧ PV er i0 (tk t0 l (k + 1)) (l.take (k + 1)) vr w') fun e w' ⟨vr, q1, q2, q3, q4⟩ => by
              rw [her] at q1 q3 q4
              refine ⟨vr, q1, q2, ?_⟩
              by_cases h0 : er = 0
              · obtain ⟨u, q5, q6⟩ := q3 h0
                exact ⟨_, u, _, _, q5, q6, fun _ => ⟨rfl, rfl, take_more hlt⟩⟩
              · exact ⟨0, _, 0, [], q4 h0, cvs_nil _, fun h => absurd h h0⟩)
      clear her
      generalize l.getD k zC = c at *
      obtain ⟨ck, cz⟩ := c
      have X0 : Hid _ := X0
      simp only at X0 X1 HN
      by_cases h0 : er = 0
      · subst h0
        have HD1 := Lib.hid (fun h => HD.out.1 h rfl)
        clear HD
        go_wp2_with fail
        obtain ⟨lit, hlit⟩ : ∃ lit : (Nat → Value) → Act, lit = fun vs => { tmps := #[Value.int IntKind.i64 key, Value.int IntKind.i64 id, Value.slice (some { block := b, off := off }) l.length cap, undef, undef, undef, Value.pointer (some { block := w.heap.size, off := 0 }), u7, Value.pointer (some { block := u1.heap.size, off := 0 }), Value.int IntKind.i64 (k : Int), vs 9, vs 11, Value.int IntKind.i64 key, Value.int IntKind.i64 id, Value.agg #[Value.int IntKind.i64 i0, Value.slice none 0 0, Value.int IntKind.i64 t0], Value.int IntKind.i64 (k : Int), Value.slice (some { block := b, off := off }) l.length cap, Value.int IntKind.i64 (l.length : Int), Value.bool true, u19, u20, vs 6, vs 0, vs 1, vs 2, vs 3, vs 4, vs 5, vs 7, vs 8, u30, u31, u32, u33, undef, undef, undef, undef], defers := [] } := ⟨_, rfl⟩
        have HLIT := Lib.hid hlit
        clear hlit
        obtain ⟨G, hG0⟩ : ∃ G, G = Gm 0 i0 (tk t0 l (k + 1)) (l.take (k + 1)) (.slice (some ⟨b, off, none⟩) l.length cap) (.agg #[.int .i64 i0, .slice sa ln sc, .int .i64 (tk t0 l k)]) (.agg #[.int .i64 ck, .int .i64 cz]) k ⟨b, off + k * 2, none⟩ wr.heap.size := ⟨_, rfl⟩
        have HG := Lib.hid hG0
        clear hG0
        refine region_inv (NS lit 10 (fun i => i == 7 || i == 9) G fun _ wv => Below wr.heap.size wr wv) (by kernel_rfl) (by decide +kernel) ?_ ?_ ?_
        · exact NS.start (fun i => ([u22, u23, u24, u25, u26, u27, u21, u28, u29, u10, undef, u11] : List Value).getD i undef) (by rw [HLIT.out]; rfl) (below_drew _ _)
        · refine ⟨?_, ?_, ?_, ?_, ?_, ?_, ?_, ?_, ?_, ?_, ?_, ?_, trivial⟩
          · intro bf ac wv hfb haf hJ K' hK
            obtain ⟨vs, rfl, jn, hM, j4⟩ := hJ
            replace hK := Lib.hid hK
            have HM := Lib.hid hM
            clear hM
            rw [HG.out] at j4
            replace j4 := Lib.hid (And.intro jn j4)
            clear jn haf
            have K1 := HC.out.cs.step HM.out
            have x0 := K1.c 0 rfl
            have x1 := K1.c 1 rfl
            have x2 := K1.c 2 rfl
            have xz := K1.2.2
            clear K1
            rw [HLIT.out]
            go_simp
            exact hK.out _ _ (NS.next (vs := vs) 0 (by omega) (x := (.agg #[.int .i64 i0, .slice sa ln sc, .int .i64 (tk t0 l k)])) (by rw [HLIT.out]; rfl) (by rw [HG.out]; exact j4.out) HM.out (by rw [HG.out]; exact (fun _ _ h => h)) (by rw [HG.out]; exact rfl))
          · intro bf ac wv hfb haf hJ K' hK
            obtain ⟨vs, rfl, jn, hM, j4⟩ := hJ
            replace hK := Lib.hid hK
            have HM := Lib.hid hM
            clear hM
            rw [HG.out] at j4
            replace j4 := Lib.hid (And.intro jn j4)
            clear jn haf
            rw [HLIT.out]
            go_simp
            exact hK.out _ _ (NS.next (vs := vs) 1 (by omega) (x := (.slice (some ⟨b, off, none⟩) l.length cap)) (by rw [HLIT.out]; rfl) (by rw [HG.out]; exact j4.out) HM.out (by rw [HG.out]; exact (fun _ _ h => h)) (by rw [HG.out]; exact rfl))
          · intro bf ac wv hfb haf hJ K' hK
            obtain ⟨vs, rfl, jn, hM, j4⟩ := hJ
            replace hK := Lib.hid hK
            have HM := Lib.hid hM
            clear hM
            rw [HG.out] at j4
            replace j4 := Lib.hid (And.intro jn j4)
            clear jn haf
            rw [HLIT.out]
            go_simp
            exact hK.out _ _ (NS.next (vs := vs) 2 (by omega) (x := (.int .i64 k)) (by rw [HLIT.out]; rfl) (by rw [HG.out]; exact j4.out) HM.out (by rw [HG.out]; exact (fun _ _ h => h)) (by rw [HG.out]; exact rfl))
          · intro bf ac wv hfb haf hJ K' hK
            obtain ⟨vs, rfl, jn, hM, j4⟩ := hJ
            replace hK := Lib.hid hK
            have HM := Lib.hid hM
            clear hM
            simp [Region.binds] at haf
            rw [HG.out] at j4
            have e1 : vs 1 = .slice (some ⟨b, off, none⟩) l.length cap := j4 1 (by simp [haf])
            have e2 : vs 2 = .int .i64 k := j4 2 (by simp [haf])
            replace j4 := Lib.hid (And.intro jn j4)
            clear jn haf
            rw [HLIT.out]
            go_simp
            exact hK.out _ _ (NS.next (vs := vs) 3 (by omega) (x := (.pointer (some ⟨b, off + k * 2, none⟩))) (by rw [HLIT.out]; simp only [upv, e1, e2, Nat.reduceBEq, cond_true, cond_false]) (by rw [HG.out]; exact j4.out) HM.out (by rw [HG.out]; exact (fun _ _ h => h)) (by rw [HG.out]; exact rfl))
          · intro bf ac wv hfb haf hJ K' hK
            obtain ⟨vs, rfl, jn, hM, j4⟩ := hJ
            replace hK := Lib.hid hK
            have HM := Lib.hid hM
            clear hM
            simp [Region.binds] at haf
            rw [HG.out] at j4
            have e3 : vs 3 = .pointer (some ⟨b, off + k * 2, none⟩) := j4 3 (by simp [haf])
            replace j4 := Lib.hid (And.intro jn j4)
            clear jn haf
            have xg0 := keep1 HM.out X0.out
            have xg1 := keep1 HM.out X1.out
            have xgz := World.block_lt_of_cell? _ _ xg0
            have xgz : b < wv.heap.size := xgz
            rw [HLIT.out]
            go_simp
            exact hK.out _ _ (NS.next (vs := vs) 4 (by omega) (x := (.agg #[.int .i64 ck, .int .i64 cz])) (by rw [HLIT.out]; simp only [upv, e3, Nat.reduceBEq, cond_true, cond_false]) (by rw [HG.out]; exact j4.out) HM.out (by rw [HG.out]; exact (fun _ _ h => h)) (by rw [HG.out]; exact rfl))
          · intro bf ac wv hfb haf hJ K' hK
            obtain ⟨vs, rfl, jn, hM, j4⟩ := hJ
            replace hK := Lib.hid hK
            have HM := Lib.hid hM
            clear hM
            simp [Region.binds] at haf
            rw [HG.out] at j4
            have e0 : vs 0 = .agg #[.int .i64 i0, .slice sa ln sc, .int .i64 (tk t0 l k)] := j4 0 (by simp [haf])
            have e4 : vs 4 = .agg #[.int .i64 ck, .int .i64 cz] := j4 4 (by simp [haf])
            replace j4 := Lib.hid (And.intro jn j4)
            clear jn haf
            rw [HLIT.out]
            go_simp
            go_at_call 14
            refine (HN.out _ (HS.out.step HM.out)).mono ?_
            rintro e w4 ⟨vr, rfl, b4, hp⟩
            exact hK.out _ _ (NS.next (vs := vs) 5 (by omega) (x := (.tuple #[vr, .int .i64 0])) (by rw [HLIT.out]; simp only [upv, e0, e4, Nat.reduceBEq, cond_true, cond_false]) (by rw [HG.out]; exact j4.out) (keep2 b4 HM.out) (by rw [HG.out]; exact (Gm.step b4)) (by rw [HG.out]; exact ⟨vr, rfl, fun _ => hp⟩))
          · intro bf ac wv hfb haf hJ K' hK
            obtain ⟨vs, rfl, jn, hM, j4⟩ := hJ
            replace hK := Lib.hid hK
            have HM := Lib.hid hM
            clear hM
            simp [Region.binds] at haf
            rw [HG.out] at j4
            have e5 := j4 5 (by simp [haf])
            replace j4 := Lib.hid (And.intro jn j4)
            clear jn haf
            obtain ⟨vr, e5, hp⟩ := e5
            rw [HLIT.out]
            go_simp
            exact hK.out _ _ (NS.next (vs := vs) 6 (by omega) (x := (.tuple #[vr, .int .i64 0])) (by rw [HLIT.out]; simp only [upv, e5, Nat.reduceBEq, cond_true, cond_false]) (by rw [HG.out]; exact j4.out) HM.out (by rw [HG.out]; exact (fun _ _ h => h)) (by rw [HG.out]; exact ⟨vr, rfl, hp⟩))
          · intro bf ac wv hfb haf hJ K' hK
            obtain ⟨vs, rfl, jn, hM, j4⟩ := hJ
            replace hK := Lib.hid hK
            have HM := Lib.hid hM
            clear hM
            simp [Region.binds] at haf
            rw [HG.out] at j4
            have e6 := j4 6 (by simp [haf])
            replace j4 := Lib.hid (And.intro jn j4)
            clear jn haf
            obtain ⟨vr, e6, hp⟩ := e6
            rw [HLIT.out]
            go_simp
            exact hK.out _ _ (NS.next (vs := vs) 7 (by omega) (x := vr) (by rw [HLIT.out]; simp only [upv, e6, Nat.reduceBEq, cond_true, cond_false]) (by rw [HG.out]; exact j4.out) HM.out (by rw [HG.out]; exact (fun _ _ h => h)) (by rw [HG.out]; exact hp))
          · intro bf ac wv hfb haf hJ K' hK
            obtain ⟨vs, rfl, jn, hM, j4⟩ := hJ
            replace hK := Lib.hid hK
            have HM := Lib.hid hM
            clear hM
            simp [Region.binds] at haf
            rw [HG.out] at j4
            have e6 := j4 6 (by simp [haf])
            replace j4 := Lib.hid (And.intro jn j4)
            clear jn haf
            obtain ⟨vr, e6, hp⟩ := e6
            rw [HLIT.out]
            go_simp
            exact hK.out _ _ (NS.next (vs := vs) 8 (by omega) (x := (.int .i64 0)) (by rw [HLIT.out]; simp only [upv, e6, Nat.reduceBEq, cond_true, cond_false]) (by rw [HG.out]; exact j4.out) HM.out (by rw [HG.out]; exact (fun _ _ h => h)) (by rw [HG.out]; exact rfl))
          · intro bf ac wv hfb haf hJ K' hK
            obtain ⟨vs, rfl, jn, hM, j4⟩ := hJ
            replace hK := Lib.hid hK
            have HM := Lib.hid hM
            clear hM
            rw [HG.out] at j4
            replace j4 := Lib.hid (And.intro jn j4)
            clear jn haf
            have hd : bf 10 = false := by
                    cases h : bf 10
                    · rfl
                    · exact absurd ((j4.out.1 h 9 rfl).symm.trans hfb) (by simp)
            rw [HLIT.out]
            go_simp
            exact hK.out _ _ (NS.next (vs := vs) 9 (by omega) (x := (.pointer (some ⟨wv.heap.size, 0, none⟩))) (by rw [HLIT.out]; rfl) (by rw [HG.out]; exact j4.out) (keep2 (al _ _) HM.out) (by rw [HG.out]; exact (Gm.step (al _ _))) (by rw [HG.out]; exact ⟨wv.heap.size, rfl, HM.out.size, fun _ => z3box wv, fun e => absurd (e.symm.trans hd) (by simp)⟩))
          · intro bf ac wv hfb haf hJ K' hK
            obtain ⟨vs, rfl, jn, hM, j4⟩ := hJ
            replace hK := Lib.hid hK
            have HM := Lib.hid hM
            clear hM
            simp [Region.binds] at haf
            rw [HG.out] at j4
            have e7 := j4 7 (by simp [haf])
            have e9 := j4 9 (by simp [haf])
            rw [hfb] at e7 e9 j4
            obtain ⟨g, e9, hg, hz, -⟩ := e9
            replace hz := hz rfl
            obtain ⟨iu, u, tu, m', e7, hu, hq⟩ := e7 rfl
            have HU := Lib.hid hu
            obtain ⟨ua, uc, rfl, -⟩ := hu
            replace hq := Lib.hid hq
            replace j4 := Lib.hid j4
            have HA := Lib.hid (show ∀ i, (i == 7 || i == 9) = true → bf i = true from fun i hi => by
                    obtain rfl | rfl : i = 7 ∨ i = 9 := by simpa using hi
                    all_goals simp [haf])
            clear jn haf
            have HZ := Lib.hid hz
            replace hg := Lib.hid hg
            have x0 := hz.cs.c 0 rfl
            have y0 := hz.cs.f 0 (by simp)
            have x1 := hz.cs.c 1 rfl
            have y1 := hz.cs.f 1 (by simp)
            have x2 := hz.cs.c 2 rfl
            have y2 := hz.cs.f 2 (by simp)
            have xz := hz.lt
            clear hz
            rw [HLIT.out]
            go_simp
            have hB2 : Below wr.heap.size wr (((wv.setCell ⟨g, 0, none⟩ (.int .i64 iu)).setCell ⟨g, 1, none⟩ (.slice ua m'.length uc)).setCell ⟨g, 2, none⟩ (.int .i64 tu)) := ((HM.out.setCell hg.out _).setCell hg.out _).setCell hg.out _
            exact hK.out _ _ (NS.put (vs := vs) (by rw [HLIT.out]; simp only [e9, e7]) HA.out hB2 (fun j _ hj => by
                    rw [HG.out]
                    by_cases e : j = 9
                    · subst e
                      exact ⟨g, e9, hg.out, fun e => (by cases e), fun _ => ⟨iu, _, tu, m', ((HZ.out.set 0 _ rfl).set 1 _ rfl).set 2 _ rfl, cvs_box HU.out HZ.out set3, hq.out⟩⟩
                    · exact Gm.put j _ e (j4.out j hj)) (fun _ => by rw [HG.out]; trivial))
          · intro bf ac wv hfb haf hJ K' hK
            obtain ⟨vs, rfl, jn, hM, j4⟩ := hJ
            replace hK := Lib.hid hK
            have HM := Lib.hid hM
            clear hM
            simp [Region.binds] at haf
            rw [HG.out] at j4
            have e8 : vs 8 = .int .i64 0 := j4 8 (by simp [haf])
            replace j4 := Lib.hid (And.intro jn j4)
            clear jn haf
            rw [HLIT.out]
            go_simp
            exact hK.out _ _ (NS.next (vs := vs) 11 (by omega) (x := (.int .i64 0)) (by rw [HLIT.out]; simp only [upv, e8, Nat.reduceBEq, cond_true, cond_false]) (by rw [HG.out]; exact j4.out) HM.out (by rw [HG.out]; exact (fun _ _ h => h)) (by rw [HG.out]; exact rfl))
        · intro bf ac wv hall hJ
          obtain ⟨vs, rfl, jn, hM, j4⟩ := hJ
          rw [HG.out, hall 10 (by decide)] at j4
          have e11 : vs 11 = _ := j4 11 (hall 11 (by decide))
          obtain ⟨g, e9, hg, -, hp⟩ := j4 9 (hall 9 (by decide))
          obtain ⟨iu, u, tu, m', hgb, hu, hq⟩ := hp rfl
          have HU := Lib.hid hu
          have HGB := Lib.hid hgb
          obtain ⟨ua, uc, rfl, -⟩ := hu
          replace hq := Lib.hid hq
          replace hg := Lib.hid hg
          have HM := Lib.hid hM
          clear hM hall j4 hp hgb
          rw [HLIT.out]
          dsimp only
          rw [e9, e11]
          clear e9 e11
          have HC2 := Lib.hid (HC.out.step HM.out)
          have HR2 := Lib.hid (HR.out.step HM.out)
          have HB2 := Lib.hid (HB.out.trans (HM.out.mono HB.out.size))
          have HS2 := Lib.hid (HS.out.step HM.out)
          have cx0 := HC2.out.cs.c 0 rfl
          have cy0 := HC2.out.cs.f 0 (by simp)
          have cx1 := HC2.out.cs.c 1 rfl
          have cy1 := HC2.out.cs.f 1 (by simp)
          have cx2 := HC2.out.cs.c 2 rfl
          have cy2 := HC2.out.cs.f 2 (by simp)
          have czz := HC2.out.lt
          have rx0 := HR2.out.cs.c 0 rfl
          have ry0 := HR2.out.cs.f 0 (by simp)
          have rx1 := HR2.out.cs.c 1 rfl
          have ry1 := HR2.out.cs.f 1 (by simp)
          have rx2 := HR2.out.cs.c 2 rfl
          have ry2 := HR2.out.cs.f 2 (by simp)
          have rzz := HR2.out.lt
          have gx0 := HGB.out.cs.c 0 rfl
          have gy0 := HGB.out.cs.f 0 (by simp)
          have gx1 := HGB.out.cs.c 1 rfl
          have gy1 := HGB.out.cs.f 1 (by simp)
          have gx2 := HGB.out.cs.c 2 rfl
          have gy2 := HGB.out.cs.f 2 (by simp)
          have gzz := HGB.out.lt
          clear HC HR HB HS
          have hrc := HRC.out
          go_wp2
          go_roundw
          case rel =>
            obtain ⟨rfl, rfl, rfl⟩ := hq.out rfl
            refine ⟨k + 1, _, HK1.out, by go_num, ((HC2.out.set 0 _ rfl).set 1 _ rfl).set 2 _ rfl, cvs_box HU.out HC2.out set3, (((HR2.out.other (Nat.ne_of_lt HRC.out) _ _).other (Nat.ne_of_lt HRC.out) _ _).other (Nat.ne_of_lt HRC.out) _ _), Lib.hid ((by repeat (first | with_reducible exact HB2.out | with_reducible exact Below.refl _ _ | ((with_reducible refine Below.setCell ?_ ?_ _); rotate_left; focus (first | (simp; done) | (simp; omega) | omega)) | ((with_reducible refine Below.alloc ?_ ?_ _); rotate_left; focus (first | (simp; done) | (simp; omega) | omega)) | with_reducible refine Below.trans ?_ (below_drewN' _ _ _) | with_reducible refine Below.trans ?_ (below_drew _ _)))), HD1⟩
          case measure => have := HK1.out; simp [intOf]; omega
      · have q1 : (er != 0) = true := by simpa using h0
        have q2 : (er == 0) = false := by simpa using h0
        have q3 : decide (er = 0) = false := by simpa using h0
        have HMD := Lib.hid (HD.out.2 h0)
        clear h0
        go_wp2_with fail
        obtain ⟨lit, hlit⟩ : ∃ lit : (Nat → Value) → Act, lit = fun vs => { tmps := #[Value.int IntKind.i64 key, Value.int IntKind.i64 id, Value.slice (some { block := b, off := off }) l.length cap, undef, undef, undef, Value.pointer (some { block := w.heap.size, off := 0 }), u7, Value.pointer (some { block := u1.heap.size, off := 0 }), Value.int IntKind.i64 (k : Int), vs 9, vs 11, Value.int IntKind.i64 key, Value.int IntKind.i64 id, Value.agg #[Value.int IntKind.i64 i0, Value.slice none 0 0, Value.int IntKind.i64 t0], Value.int IntKind.i64 (k : Int), Value.slice (some { block := b, off := off }) l.length cap, Value.int IntKind.i64 (l.length : Int), Value.bool true, u19, u20, vs 6, vs 0, vs 1, vs 2, vs 3, vs 4, vs 5, vs 7, vs 8, u30, u31, u32, u33, undef, undef, undef, undef], defers := [] } := ⟨_, rfl⟩
        have HLIT := Lib.hid hlit
        clear hlit
        obtain ⟨G, hG0⟩ : ∃ G, G = Gm er i0 (tk t0 l (k + 1)) (l.take (k + 1)) (.slice (some ⟨b, off, none⟩) l.length cap) (.agg #[.int .i64 i0, .slice sa ln sc, .int .i64 (tk t0 l k)]) (.agg #[.int .i64 ck, .int .i64 cz]) k ⟨b, off + k * 2, none⟩ wr.heap.size := ⟨_, rfl⟩
        have HG := Lib.hid hG0
        clear hG0
        refine region_inv (NS lit 10 (fun i => i == 7 || i == 9) G fun _ wv => Below wr.heap.size wr wv) (by kernel_rfl) (by decide +kernel) ?_ ?_ ?_
        · exact NS.start (fun i => ([u22, u23, u24, u25, u26, u27, u21, u28, u29, u10, undef, u11] : List Value).getD i undef) (by rw [HLIT.out]; rfl) (below_drew _ _)
        · refine ⟨?_, ?_, ?_, ?_, ?_, ?_, ?_, ?_, ?_, ?_, ?_, ?_, trivial⟩
          · intro bf ac wv hfb haf hJ K' hK
            obtain ⟨vs, rfl, jn, hM, j4⟩ := hJ
            replace hK := Lib.hid hK
            have HM := Lib.hid hM
            clear hM
            rw [HG.out] at j4
            replace j4 := Lib.hid (And.intro jn j4)
            clear jn haf
            have K1 := HC.out.cs.step HM.out
            have x0 := K1.c 0 rfl
            have x1 := K1.c 1 rfl
            have x2 := K1.c 2 rfl
            have xz := K1.2.2
            clear K1
            rw [HLIT.out]
            go_simp
            exact hK.out _ _ (NS.next (vs := vs) 0 (by omega) (x := (.agg #[.int .i64 i0, .slice sa ln sc, .int .i64 (tk t0 l k)])) (by rw [HLIT.out]; rfl) (by rw [HG.out]; exact j4.out) HM.out (by rw [HG.out]; exact (fun _ _ h => h)) (by rw [HG.out]; exact rfl))
          · intro bf ac wv hfb haf hJ K' hK
            obtain ⟨vs, rfl, jn, hM, j4⟩ := hJ
            replace hK := Lib.hid hK
            have HM := Lib.hid hM
            clear hM
            rw [HG.out] at j4
            replace j4 := Lib.hid (And.intro jn j4)
            clear jn haf
            rw [HLIT.out]
            go_simp
            exact hK.out _ _ (NS.next (vs := vs) 1 (by omega) (x := (.slice (some ⟨b, off, none⟩) l.length cap)) (by rw [HLIT.out]; rfl) (by rw [HG.out]; exact j4.out) HM.out (by rw [HG.out]; exact (fun _ _ h => h)) (by rw [HG.out]; exact rfl))
          · intro bf ac wv hfb haf hJ K' hK
            obtain ⟨vs, rfl, jn, hM, j4⟩ := hJ
            replace hK := Lib.hid hK
            have HM := Lib.hid hM
            clear hM
            rw [HG.out] at j4
            replace j4 := Lib.hid (And.intro jn j4)
            clear jn haf
            rw [HLIT.out]
            go_simp
            exact hK.out _ _ (NS.next (vs := vs) 2 (by omega) (x := (.int .i64 k)) (by rw [HLIT.out]; rfl) (by rw [HG.out]; exact j4.out) HM.out (by rw [HG.out]; exact (fun _ _ h => h)) (by rw [HG.out]; exact rfl))
          · intro bf ac wv hfb haf hJ K' hK
            obtain ⟨vs, rfl, jn, hM, j4⟩ := hJ
            replace hK := Lib.hid hK
            have HM := Lib.hid hM
            clear hM
            simp [Region.binds] at haf
            rw [HG.out] at j4
            have e1 : vs 1 = .slice (some ⟨b, off, none⟩) l.length cap := j4 1 (by simp [haf])
            have e2 : vs 2 = .int .i64 k := j4 2 (by simp [haf])
            replace j4 := Lib.hid (And.intro jn j4)
            clear jn haf
            rw [HLIT.out]
            go_simp
            exact hK.out _ _ (NS.next (vs := vs) 3 (by omega) (x := (.pointer (some ⟨b, off + k * 2, none⟩))) (by rw [HLIT.out]; simp only [upv, e1, e2, Nat.reduceBEq, cond_true, cond_false]) (by rw [HG.out]; exact j4.out) HM.out (by rw [HG.out]; exact (fun _ _ h => h)) (by rw [HG.out]; exact rfl))
          · intro bf ac wv hfb haf hJ K' hK
            obtain ⟨vs, rfl, jn, hM, j4⟩ := hJ
            replace hK := Lib.hid hK
            have HM := Lib.hid hM
            clear hM
            simp [Region.binds] at haf
            rw [HG.out] at j4
            have e3 : vs 3 = .pointer (some ⟨b, off + k * 2, none⟩) := j4 3 (by simp [haf])
            replace j4 := Lib.hid (And.intro jn j4)
            clear jn haf
            have xg0 := keep1 HM.out X0.out
            have xg1 := keep1 HM.out X1.out
            have xgz := World.block_lt_of_cell? _ _ xg0
            have xgz : b < wv.heap.size := xgz
            rw [HLIT.out]
            go_simp
            exact hK.out _ _ (NS.next (vs := vs) 4 (by omega) (x := (.agg #[.int .i64 ck, .int .i64 cz])) (by rw [HLIT.out]; simp only [upv, e3, Nat.reduceBEq, cond_true, cond_false]) (by rw [HG.out]; exact j4.out) HM.out (by rw [HG.out]; exact (fun _ _ h => h)) (by rw [HG.out]; exact rfl))
          · intro bf ac wv hfb haf hJ K' hK
            obtain ⟨vs, rfl, jn, hM, j4⟩ := hJ
            replace hK := Lib.hid hK
            have HM := Lib.hid hM
            clear hM
            simp [Region.binds] at haf
            rw [HG.out] at j4
            have e0 : vs 0 = .agg #[.int .i64 i0, .slice sa ln sc, .int .i64 (tk t0 l k)] := j4 0 (by simp [haf])
            have e4 : vs 4 = .agg #[.int .i64 ck, .int .i64 cz] := j4 4 (by simp [haf])
            replace j4 := Lib.hid (And.intro jn j4)
            clear jn haf
            rw [HLIT.out]
            go_simp
            go_at_call 14
            refine (HN.out _ (HS.out.step HM.out)).mono ?_
            rintro e w4 ⟨vr, rfl, b4, hp⟩
            exact hK.out _ _ (NS.next (vs := vs) 5 (by omega) (x := (.tuple #[vr, .int .i64 er])) (by rw [HLIT.out]; simp only [upv, e0, e4, Nat.reduceBEq, cond_true, cond_false]) (by rw [HG.out]; exact j4.out) (keep2 b4 HM.out) (by rw [HG.out]; exact (Gm.step b4)) (by rw [HG.out]; exact ⟨vr, rfl, fun _ => hp⟩))
          · intro bf ac wv hfb haf hJ K' hK
            obtain ⟨vs, rfl, jn, hM, j4⟩ := hJ
            replace hK := Lib.hid hK
            have HM := Lib.hid hM
            clear hM
            simp [Region.binds] at haf
            rw [HG.out] at j4
            have e5 := j4 5 (by simp [haf])
            replace j4 := Lib.hid (And.intro jn j4)
            clear jn haf
            obtain ⟨vr, e5, hp⟩ := e5
            rw [HLIT.out]
            go_simp
            exact hK.out _ _ (NS.next (vs := vs) 6 (by omega) (x := (.tuple #[vr, .int .i64 er])) (by rw [HLIT.out]; simp only [upv, e5, Nat.reduceBEq, cond_true, cond_false]) (by rw [HG.out]; exact j4.out) HM.out (by rw [HG.out]; exact (fun _ _ h => h)) (by rw [HG.out]; exact ⟨vr, rfl, hp⟩))
          · intro bf ac wv hfb haf hJ K' hK
            obtain ⟨vs, rfl, jn, hM, j4⟩ := hJ
            replace hK := Lib.hid hK
            have HM := Lib.hid hM
            clear hM
            simp [Region.binds] at haf
            rw [HG.out] at j4
            have e6 := j4 6 (by simp [haf])
            replace j4 := Lib.hid (And.intro jn j4)
            clear jn haf
            obtain ⟨vr, e6, hp⟩ := e6
            rw [HLIT.out]
            go_simp
            exact hK.out _ _ (NS.next (vs := vs) 7 (by omega) (x := vr) (by rw [HLIT.out]; simp only [upv, e6, Nat.reduceBEq, cond_true, cond_false]) (by rw [HG.out]; exact j4.out) HM.out (by rw [HG.out]; exact (fun _ _ h => h)) (by rw [HG.out]; exact hp))
          · intro bf ac wv hfb haf hJ K' hK
            obtain ⟨vs, rfl, jn, hM, j4⟩ := hJ
            replace hK := Lib.hid hK
            have HM := Lib.hid hM
            clear hM
            simp [Region.binds] at haf
            rw [HG.out] at j4
            have e6 := j4 6 (by simp [haf])
            replace j4 := Lib.hid (And.intro jn j4)
            clear jn haf
            obtain ⟨vr, e6, hp⟩ := e6
            rw [HLIT.out]
            go_simp
            exact hK.out _ _ (NS.next (vs := vs) 8 (by omega) (x := (.int .i64 er)) (by rw [HLIT.out]; simp only [upv, e6, Nat.reduceBEq, cond_true, cond_false]) (by rw [HG.out]; exact j4.out) HM.out (by rw [HG.out]; exact (fun _ _ h => h)) (by rw [HG.out]; exact rfl))
          · intro bf ac wv hfb haf hJ K' hK
            obtain ⟨vs, rfl, jn, hM, j4⟩ := hJ
            replace hK := Lib.hid hK
            have HM := Lib.hid hM
            clear hM
            rw [HG.out] at j4
            replace j4 := Lib.hid (And.intro jn j4)
            clear jn haf
            have hd : bf 10 = false := by
                    cases h : bf 10
                    · rfl
                    · exact absurd ((j4.out.1 h 9 rfl).symm.trans hfb) (by simp)
            rw [HLIT.out]
            go_simp
            exact hK.out _ _ (NS.next (vs := vs) 9 (by omega) (x := (.pointer (some ⟨wv.heap.size, 0, none⟩))) (by rw [HLIT.out]; rfl) (by rw [HG.out]; exact j4.out) (keep2 (al _ _) HM.out) (by rw [HG.out]; exact (Gm.step (al _ _))) (by rw [HG.out]; exact ⟨wv.heap.size, rfl, HM.out.size, fun _ => z3box wv, fun e => absurd (e.symm.trans hd) (by simp)⟩))
          · intro bf ac wv hfb haf hJ K' hK
            obtain ⟨vs, rfl, jn, hM, j4⟩ := hJ
            replace hK := Lib.hid hK
            have HM := Lib.hid hM
            clear hM
            simp [Region.binds] at haf
            rw [HG.out] at j4
            have e7 := j4 7 (by simp [haf])
            have e9 := j4 9 (by simp [haf])
            rw [hfb] at e7 e9 j4
            obtain ⟨g, e9, hg, hz, -⟩ := e9
            replace hz := hz rfl
            obtain ⟨iu, u, tu, m', e7, hu, hq⟩ := e7 rfl
            have HU := Lib.hid hu
            obtain ⟨ua, uc, rfl, -⟩ := hu
            replace hq := Lib.hid hq
            replace j4 := Lib.hid j4
            have HA := Lib.hid (show ∀ i, (i == 7 || i == 9) = true → bf i = true from fun i hi => by
                    obtain rfl | rfl : i = 7 ∨ i = 9 := by simpa using hi
                    all_goals simp [haf])
            clear jn haf
            have HZ := Lib.hid hz
            replace hg := Lib.hid hg
            have x0 := hz.cs.c 0 rfl
            have y0 := hz.cs.f 0 (by simp)
            have x1 := hz.cs.c 1 rfl
            have y1 := hz.cs.f 1 (by simp)
            have x2 := hz.cs.c 2 rfl
            have y2 := hz.cs.f 2 (by simp)
            have xz := hz.lt
            clear hz
            rw [HLIT.out]
            go_simp
            have hB2 : Below wr.heap.size wr (((wv.setCell ⟨g, 0, none⟩ (.int .i64 iu)).setCell ⟨g, 1, none⟩ (.slice ua m'.length uc)).setCell ⟨g, 2, none⟩ (.int .i64 tu)) := ((HM.out.setCell hg.out _).setCell hg.out _).setCell hg.out _
            exact hK.out _ _ (NS.put (vs := vs) (by rw [HLIT.out]; simp only [e9, e7]) HA.out hB2 (fun j _ hj => by
                    rw [HG.out]
                    by_cases e : j = 9
                    · subst e
                      exact ⟨g, e9, hg.out, fun e => (by cases e), fun _ => ⟨iu, _, tu, m', ((HZ.out.set 0 _ rfl).set 1 _ rfl).set 2 _ rfl, cvs_box HU.out HZ.out set3, hq.out⟩⟩
                    · exact Gm.put j _ e (j4.out j hj)) (fun _ => by rw [HG.out]; trivial))
          · intro bf ac wv hfb haf hJ K' hK
            obtain ⟨vs, rfl, jn, hM, j4⟩ := hJ
            replace hK := Lib.hid hK
            have HM := Lib.hid hM
            clear hM
            simp [Region.binds] at haf
            rw [HG.out] at j4
            have e8 : vs 8 = .int .i64 er := j4 8 (by simp [haf])
            replace j4 := Lib.hid (And.intro jn j4)
            clear jn haf
            rw [HLIT.out]
            go_simp
            exact hK.out _ _ (NS.next (vs := vs) 11 (by omega) (x := (.int .i64 er)) (by rw [HLIT.out]; simp only [upv, e8, Nat.reduceBEq, cond_true, cond_false]) (by rw [HG.out]; exact j4.out) HM.out (by rw [HG.out]; exact (fun _ _ h => h)) (by rw [HG.out]; exact rfl))
        · intro bf ac wv hall hJ
          obtain ⟨vs, rfl, jn, hM, j4⟩ := hJ
          rw [HG.out, hall 10 (by decide)] at j4
          have e11 : vs 11 = _ := j4 11 (hall 11 (by decide))
          obtain ⟨g, e9, hg, -, hp⟩ := j4 9 (hall 9 (by decide))
          obtain ⟨iu, u, tu, m', hgb, hu, hq⟩ := hp rfl
          have HU := Lib.hid hu
          have HGB := Lib.hid hgb
          obtain ⟨ua, uc, rfl, -⟩ := hu
          replace hq := Lib.hid hq
          replace hg := Lib.hid hg
          have HM := Lib.hid hM
          clear hM hall j4 hp hgb
          rw [HLIT.out]
          dsimp only
          rw [e9, e11]
          clear e9 e11
          have HC2 := Lib.hid (HC.out.step HM.out)
          have HR2 := Lib.hid (HR.out.step HM.out)
          have HB2 := Lib.hid (HB.out.trans (HM.out.mono HB.out.size))
          have HS2 := Lib.hid (HS.out.step HM.out)
          have cx0 := HC2.out.cs.c 0 rfl
          have cy0 := HC2.out.cs.f 0 (by simp)
          have cx1 := HC2.out.cs.c 1 rfl
          have cy1 := HC2.out.cs.f 1 (by simp)
          have cx2 := HC2.out.cs.c 2 rfl
          have cy2 := HC2.out.cs.f 2 (by simp)
          have czz := HC2.out.lt
          have rx0 := HR2.out.cs.c 0 rfl
          have ry0 := HR2.out.cs.f 0 (by simp)
          have rx1 := HR2.out.cs.c 1 rfl
          have ry1 := HR2.out.cs.f 1 (by simp)
          have rx2 := HR2.out.cs.c 2 rfl
          have ry2 := HR2.out.cs.f 2 (by simp)
          have rzz := HR2.out.lt
          have gx0 := HGB.out.cs.c 0 rfl
          have gy0 := HGB.out.cs.f 0 (by simp)
          have gx1 := HGB.out.cs.c 1 rfl
          have gy1 := HGB.out.cs.f 1 (by simp)
          have gx2 := HGB.out.cs.c 2 rfl
          have gy2 := HGB.out.cs.f 2 (by simp)
          have gzz := HGB.out.lt
          clear HC HR HB HS
          have hrc := HRC.out
          go_wp2
          exact bodyPost_ret (v := .tuple #[.agg #[.int .i64 i0, .slice sa ln sc, .int .i64 (tk t0 l k)], .bool false]) (by simp [results, Try.results5, go_sem, rx0, rx1, rx2]) rfl ⟨.bool false, _, rfl, false, rfl, ⟨i0, tk t0 l k, .slice sa ln sc, l.take k, rfl, cvs_box HS2.out HR2.out set3, fun h => (by cases h), fun h => absurd (HMD.out.symm.trans h) (by simp)⟩, (by repeat (first | with_reducible exact HB2.out | with_reducible exact Below.refl _ _ | ((with_reducible refine Below.setCell ?_ ?_ _); rotate_left; focus (first | (simp; done) | (simp; omega) | omega)) | ((with_reducible refine Below.alloc ?_ ?_ _); rotate_left; focus (first | (simp; done) | (simp; omega) | omega)) | with_reducible refine Below.trans ?_ (below_drewN' _ _ _) | with_reducible refine Below.trans ?_ (below_drew _ _)))⟩
    · obtain rfl : k = l.length := by omega
      obtain rfl := hl9.out rfl
      rw [List.take_length] at HS
      have HF := Lib.hid (md_end HQ.out)
      have HMI := hmi
      clear hmi HQ H
      obtain ⟨gb, hgb⟩ : ∃ gb, gnB key i0 (tk t0 l l.length) l = gb := ⟨_, rfl⟩
      have HGB := Lib.hid hgb
      clear hgb
      clear HF
      go_wp2_with fail
      obtain ⟨lit, hlit⟩ : ∃ lit : (Nat → Value) → Act, lit = fun vs => { tmps := #[Value.int IntKind.i64 key, Value.int IntKind.i64 id, Value.slice a l.length cap, undef, undef, undef, Value.pointer (some { block := w.heap.size, off := 0 }), vs 5, Value.pointer (some { block := u1.heap.size, off := 0 }), Value.int IntKind.i64 (l.length : Int), u10, u11, Value.int IntKind.i64 key, Value.int IntKind.i64 id, Value.agg #[Value.int IntKind.i64 i0, Value.slice none 0 0, Value.int IntKind.i64 t0], Value.int IntKind.i64 (l.length : Int), Value.slice a l.length cap, Value.int IntKind.i64 (l.length : Int), Value.bool false, u19, u20, u21, u22, u23, u24, u25, u26, u27, u28, u29, u30, u31, u32, u33, vs 0, vs 1, vs 2, vs 3], defers := [] } := ⟨_, rfl⟩
      have HLIT := Lib.hid hlit
      clear hlit
      obtain ⟨val, hval⟩ : ∃ val : List Value, val = [.agg #[.int .i64 i0, .slice sa l.length sc, .int .i64 (tk t0 l l.length)], .int .i64 key, .agg #[.int .i64 i0, .slice sa l.length sc, .int .i64 (tk t0 l l.length)], .bool gb, undef, .bool gb] := ⟨_, rfl⟩
      have E0 := Lib.hid (show val.getD 0 undef = .agg #[.int .i64 i0, .slice sa l.length sc, .int .i64 (tk t0 l l.length)] by rw [hval]; rfl)
      have E1 := Lib.hid (show val.getD 1 undef = .int .i64 key by rw [hval]; rfl)
      have E2 := Lib.hid (show val.getD 2 undef = .agg #[.int .i64 i0, .slice sa l.length sc, .int .i64 (tk t0 l l.length)] by rw [hval]; rfl)
      have E3 := Lib.hid (show val.getD 3 undef = .bool gb by rw [hval]; rfl)
      have E4 := Lib.hid (show val.getD 4 undef = undef by rw [hval]; rfl)
      have E5 := Lib.hid (show val.getD 5 undef = .bool gb by rw [hval]; rfl)
      clear hval
      refine region_inv (NS lit 4 (fun i => i == 0 || i == 3) (fun _ i v _ => i = 4 ∨ v = val.getD i undef) fun d wv => (d = false → Below wr.heap.size wr wv) ∧ (d = true → Cs wv w.heap.size #[.int .i64 i0, .slice sa l.length sc, .int .i64 (tk t0 l l.length)] ∧ CvsAt wv (.slice sa l.length sc) l ∧ Below w.heap.size w wv ∧ Cs wv u1.heap.size #[.int .i64 i0, .slice sa l.length sc, .int .i64 (tk t0 l l.length)])) (by kernel_rfl) (by decide +kernel) ?_ ?_ ?_
      · exact NS.start (fun i => ([undef, undef, undef, undef, undef, u7] : List Value).getD i undef) (by rw [HLIT.out]; rfl) ⟨fun _ => below_drew _ _, fun h => by cases h⟩
      · refine ⟨?_, ?_, ?_, ?_, ?_, ?_, trivial⟩
        · intro bf ac wv hfb haf hJ K' hK
          obtain ⟨vs, rfl, jn, hM, j4⟩ := hJ
          replace hK := Lib.hid hK
          have hd : bf 4 = false := Bool.eq_false_iff.2 fun h => absurd ((jn h 0 (by decide)).symm.trans hfb) (by simp)
          have K1 := HC.out.cs.step (hM.1 hd)
          have x0 := K1.c 0 rfl
          have x1 := K1.c 1 rfl
          have x2 := K1.c 2 rfl
          have xz := K1.2.2
          clear K1
          replace hM := Lib.hid hM
          replace j4 := Lib.hid (And.intro jn j4)
          clear jn haf hfb
          rw [HLIT.out]
          go_simp
          exact hK.out _ _ (NS.next (wv := wv) (vs := vs) 0 (by omega) (x := .agg #[.int .i64 i0, .slice sa l.length sc, .int .i64 (tk t0 l l.length)]) (by rw [HLIT.out]; rfl) j4.out hM.out (fun _ _ h => h) (.inr E0.out.symm))
        · intro bf ac wv hfb haf hJ K' hK
          obtain ⟨vs, rfl, jn, hM, j4⟩ := hJ
          replace hK := Lib.hid hK
          replace hM := Lib.hid hM
          replace j4 := Lib.hid (And.intro jn j4)
          clear jn haf hfb
          rw [HLIT.out]
          go_simp
          exact hK.out _ _ (NS.next (wv := wv) (vs := vs) 1 (by omega) (x := .int .i64 key) (by rw [HLIT.out]; rfl) j4.out hM.out (fun _ _ h => h) (.inr E1.out.symm))
        · intro bf ac wv hfb haf hJ K' hK
          obtain ⟨vs, rfl, jn, hM, j4⟩ := hJ
          replace hK := Lib.hid hK
          have K1 : Cs wv u1.heap.size #[.int .i64 i0, .slice sa l.length sc, .int .i64 (tk t0 l l.length)] := by
            cases h : bf 4
            · exact HC.out.cs.step (hM.1 h)
            · exact (hM.2 h).2.2.2
          have x0 := K1.c 0 rfl
          have x1 := K1.c 1 rfl
          have x2 := K1.c 2 rfl
          have xz := K1.2.2
          clear K1
          replace hM := Lib.hid hM
          replace j4 := Lib.hid (And.intro jn j4)
          clear jn haf hfb
          rw [HLIT.out]
          go_simp
          exact hK.out _ _ (NS.next (wv := wv) (vs := vs) 2 (by omega) (x := .agg #[.int .i64 i0, .slice sa l.length sc, .int .i64 (tk t0 l l.length)]) (by rw [HLIT.out]; rfl) j4.out hM.out (fun _ _ h => h) (.inr E2.out.symm))
        · intro bf ac wv hfb haf hJ K' hK
          obtain ⟨vs, rfl, jn, hM, j4⟩ := hJ
          replace hK := Lib.hid hK
          simp [Region.binds] at haf
          have e1 : vs 1 = _ := ((j4 1 (by simp [haf])).resolve_left (by omega)).trans E1.out
          have e2 : vs 2 = _ := ((j4 2 (by simp [haf])).resolve_left (by omega)).trans E2.out
          have hd : bf 4 = false := Bool.eq_false_iff.2 fun h => absurd ((jn h 3 (by decide)).symm.trans hfb) (by simp)
          replace hM := Lib.hid hM
          replace j4 := Lib.hid (And.intro jn j4)
          clear jn haf hfb
          rw [HLIT.out]
          go_simp
          go_at_call 16
          refine (genuine_any key i0 (tk t0 l l.length) _ l _ (HS.out.step (hM.out.1 hd))).mono ?_
          rintro e w4 ⟨rfl, b4⟩
          rw [HGB.out]
          exact hK.out _ _ (NS.next (wv := wv) (vs := vs) 3 (by omega) (x := .bool gb) (by rw [HLIT.out]; simp only [upv, e1, e2, Nat.reduceBEq, cond_true, cond_false]) j4.out (by rw [hd]; exact ⟨fun _ => keep2 b4 (hM.out.1 hd), fun h => (by cases h)⟩) (fun _ _ h => h) (.inr E3.out.symm))
        · intro bf ac wv hfb haf hJ K' hK
          obtain ⟨vs, rfl, jn, hM, j4⟩ := hJ
          replace hK := Lib.hid hK
          simp [Region.binds] at haf
          have e0 : vs 0 = _ := ((j4 0 (by simp [haf])).resolve_left (by omega)).trans E0.out
          rw [hfb] at hM
          replace hM := Lib.hid (hM.1 rfl)
          have HR2 := Lib.hid (HR.out.step hM.out)
          have HS2 := Lib.hid (HS.out.step hM.out)
          have HB2 := Lib.hid (HB.out.trans (hM.out.mono HB.out.size))
          have x0 := HR2.out.cs.c 0 rfl
          have y0 := HR2.out.cs.f 0 (by simp)
          have x1 := HR2.out.cs.c 1 rfl
          have y1 := HR2.out.cs.f 1 (by simp)
          have x2 := HR2.out.cs.c 2 rfl
          have y2 := HR2.out.cs.f 2 (by simp)
          have xz := HR2.out.lt
          have HA := Lib.hid (show ∀ i, (i == 0 || i == 3) = true → bf i = true from fun i hi => by
            obtain rfl | rfl : i = 0 ∨ i = 3 := by simpa using hi
            all_goals simp [haf])
          replace j4 := Lib.hid j4
          clear jn haf hfb
          rw [HLIT.out]
          go_simp
          exact hK.out _ _ (NS.put (vs := vs) (by rw [HLIT.out]; simp only [e0]) HA.out ⟨fun h => (by cases h), fun _ => ⟨(((HR2.out.set 0 _ rfl).set 1 _ rfl).set 2 _ rfl).cs, cvs_box HS2.out HR2.out set3, (by repeat (first | with_reducible exact HB2.out | with_reducible exact Below.refl _ _ | ((with_reducible refine Below.setCell ?_ ?_ _); rotate_left; focus (first | (simp; done) | (simp; omega) | omega)) | ((with_reducible refine Below.alloc ?_ ?_ _); rotate_left; focus (first | (simp; done) | (simp; omega) | omega)) | with_reducible refine Below.trans ?_ (below_drewN' _ _ _) | with_reducible refine Below.trans ?_ (below_drew _ _))), ((((HC.out.step hM.out).other (Nat.ne_of_gt HRC.out) _ _).other (Nat.ne_of_gt HRC.out) _ _).other (Nat.ne_of_gt HRC.out) _ _).cs⟩⟩ (fun j _ hj => j4.out j hj) (fun _ => .inl rfl))
        · intro bf ac wv hfb haf hJ K' hK
          obtain ⟨vs, rfl, jn, hM, j4⟩ := hJ
          replace hK := Lib.hid hK
          simp [Region.binds] at haf
          have e3 : vs 3 = _ := ((j4 3 (by simp [haf])).resolve_left (by omega)).trans E3.out
          replace hM := Lib.hid hM
          replace j4 := Lib.hid (And.intro jn j4)
          clear jn haf hfb
          rw [HLIT.out]
          go_simp
          exact hK.out _ _ (NS.next (wv := wv) (vs := vs) 5 (by omega) (x := .bool gb) (by rw [HLIT.out]; simp only [upv, e3, Nat.reduceBEq, cond_true, cond_false]) j4.out hM.out (fun _ _ h => h) (.inr E5.out.symm))
      · intro bf ac wv hall hJ
        obtain ⟨vs, rfl, -, hM, j4⟩ := hJ
        have e5 := ((j4 5 (hall 5 (by decide))).resolve_left (by omega)).trans E5.out
        obtain ⟨hR, hS, hB, -⟩ := hM.2 (hall 4 (by decide))
        have HS9 := Lib.hid hS
        have HB9 := Lib.hid hB
        clear hM hS hB hall j4
        have x0 := hR.c 0 rfl
        have y0 := hR.f 0 (by simp)
        have x1 := hR.c 1 rfl
        have y1 := hR.f 1 (by simp)
        have x2 := hR.c 2 rfl
        have y2 := hR.f 2 (by simp)
        have xz := hR.2.2
        clear hR
        rw [HLIT.out]
        dsimp only
        rw [e5]
        clear e5
        go_wp2
        exact bodyPost_ret (v := .tuple #[.agg #[.int .i64 i0, .slice sa l.length sc, .int .i64 (tk t0 l l.length)], .bool gb]) (by simp [results, Try.results5, go_sem, x0, x1, x2]) rfl ⟨.bool gb, _, rfl, gb, rfl, ⟨i0, tk t0 l l.length, _, l, rfl, HS9.out, fun h => ⟨rfl, by rw [HGB.out]; exact h⟩, fun h => ⟨(by rw [← HGB.out, (HMI.out (mt_of h)).1, (HMI.out (mt_of h)).2]; exact (md_parts h).2.2), (HMI.out (mt_of h)).1, by rw [(HMI.out (mt_of h)).2], rfl⟩⟩, HB9.out⟩
end Go.Proofs.Ytoaleijfpocdjaa
