import Derived.Deep.CutRange
import Derived.Test.YteodafhgfcbdpaaGp
import Derived.Test.YteodafhgfcbdpaaUh
namespace Go.Proofs.Yteodafhgfcbdpaa
open Go.RowKit

/-- A piece. -/
structure Pc where
  i : Int
  d : List Int
  p : List Int
def zPc : Pc := ⟨0, [], []⟩
/-- A list of numbers behind a slice that may be cut. -/
def CapI (w : World) (v : Value) (l : List Int) : Prop := IntsAt w v l ∧ ∃ a c, v = .slice a l.length c ∧ l.length ≤ c
theorem CapI.step {w w1 : World} {v : Value} {l : List Int} (h : CapI w v l) (hb : Below w.heap.size w w1) : CapI w1 v l := ⟨h.1.step hb, h.2⟩
theorem capI_row {w : World} {base : Nat} {v : Value} {l : List Int} (h : w.ownsRow base 3 1 v l.length (l.map (Value.int .i64))) : CapI w v l := by
  refine ⟨ints_of_row h, ?_⟩
  rcases h.2 with ⟨rfl, e⟩ | ⟨g, cap, cur, rfl, -, -, hn, -⟩
  · exact ⟨none, 0, by rw [e], by omega⟩
  · exact ⟨_, cap, rfl, hn⟩
def PcsAt (w : World) (v : Value) (l : List Pc) : Prop :=
  ∃ a cap, v = .slice a l.length cap ∧ l.length ≤ maxLen ∧ (l ≠ [] → ∃ b off, a = some ⟨b, off, none⟩ ∧ ∀ (i : Nat) (x : Pc), l[i]? = some x → ∃ u1 u2, w.cell? ⟨b, off + i * 3, none⟩ = some (.int .i64 x.i) ∧ w.cell? ⟨b, off + i * 3 + 1, none⟩ = some u1 ∧ w.cell? ⟨b, off + i * 3 + 2, none⟩ = some u2 ∧ IntsAt w u1 x.d ∧ CapI w u2 x.p)
theorem PcsAt.step {w w1 : World} {v : Value} {l : List Pc} (h : PcsAt w v l) (hb : Below w.heap.size w w1) : PcsAt w1 v l := by
  obtain ⟨a, cap, hv, hm, hc⟩ := h
  refine ⟨a, cap, hv, hm, fun hl => ?_⟩
  obtain ⟨b, off, ha, hx⟩ := hc hl
  refine ⟨b, off, ha, fun i x hi => ?_⟩
  obtain ⟨u1, u2, h1, h2, h3, h4, h5⟩ := hx i x hi
  exact ⟨u1, u2, keep1 hb h1, keep1 hb h2, keep1 hb h3, h4.step hb, h5.step hb⟩
/-- The cells of pieces. -/
def pcs : List Pc → List (Value × Value) → List Value
  | x :: l, u :: us => [.int .i64 x.i, u.1, u.2] ++ pcs l us
  | _, _ => []
theorem pcs_app : ∀ (l : List Pc) (us : List (Value × Value)) (x : Pc) (u : Value × Value), us.length = l.length → pcs (l ++ [x]) (us ++ [u]) = pcs l us ++ [.int .i64 x.i, u.1, u.2]
  | [], [], _, _, _ => rfl
  | [], _ :: _, _, _, h => by simp at h
  | _ :: _, [], _, _, h => by simp at h
  | y :: l, v :: us, x, u, h => by
    show [.int .i64 y.i, v.1, v.2] ++ pcs (l ++ [x]) (us ++ [u]) = _
    rw [pcs_app l us x u (by simpa using h)]
    rfl
theorem pcs_get : ∀ (l : List Pc) (us : List (Value × Value)) (i : Nat) (x : Pc) (u : Value × Value), l[i]? = some x → us[i]? = some u → (pcs l us)[i * 3]? = some (.int .i64 x.i) ∧ (pcs l us)[i * 3 + 1]? = some u.1 ∧ (pcs l us)[i * 3 + 2]? = some u.2
  | [], _, _, _, _, h, _ => by simp at h
  | _ :: _, [], _, _, _, _, h => by simp at h
  | y :: l, v :: us, 0, x, u, h, h' => by
    simp only [List.getElem?_cons_zero, Option.some.injEq] at h h'
    subst h h'
    exact ⟨rfl, rfl, rfl⟩
  | y :: l, v :: us, i + 1, x, u, h, h' => by
    simp only [List.getElem?_cons_succ] at h h'
    have := pcs_get l us i x u h h'
    refine ⟨?_, ?_, ?_⟩
    · rw [show (i + 1) * 3 = i * 3 + 1 + 1 + 1 by omega]; exact this.1
    · rw [show (i + 1) * 3 + 1 = i * 3 + 1 + 1 + 1 + 1 by omega]; exact this.2.1
    · rw [show (i + 1) * 3 + 2 = i * 3 + 2 + 1 + 1 + 1 by omega]; exact this.2.2
/-- Pieces in a row of one's own. -/
def PcsR (n0 : Nat) (l : List Pc) (rv : Value) (W : World) : Prop :=
  ∃ us : List (Value × Value), us.length = l.length ∧ W.ownsRow n0 29 3 rv l.length (pcs l us) ∧ ∀ (i : Nat) (x : Pc), l[i]? = some x → ∃ u1 u2, us[i]? = some (u1, u2) ∧ W.ownsRow n0 3 1 u1 x.d.length (x.d.map (Value.int .i64)) ∧ W.ownsRow n0 3 1 u2 x.p.length (x.p.map (Value.int .i64))
theorem PcsR.nil (n0 : Nat) (W : World) : PcsR n0 [] (.slice none 0 0) W := ⟨[], rfl, World.ownsRow_nil _ _ _ _, fun i x h => by simp at h⟩
theorem PcsR.step {n0 : Nat} {l : List Pc} {rv : Value} {W W' : World} (h : PcsR n0 l rv W) (hb : Below W.heap.size W W') : PcsR n0 l rv W' := by
  obtain ⟨us, h0, h1, h2⟩ := h
  refine ⟨us, h0, row_step h1 hb, fun i x hi => ?_⟩
  obtain ⟨u1, u2, e1, e2, e3⟩ := h2 i x hi
  exact ⟨u1, u2, e1, row_step e2 hb, row_step e3 hb⟩
theorem PcsR.set {n0 B : Nat} {l : List Pc} {rv : Value} {W : World} (h : PcsR n0 l rv W) (hB : B < n0) (j : Nat) (u : Value) : PcsR n0 l rv (W.setCell ⟨B, j, none⟩ u) := by
  obtain ⟨us, h0, h1, h2⟩ := h
  refine ⟨us, h0, ownsRow_setCell_below h1 (a := ⟨B, j, none⟩) hB u, fun i x hi => ?_⟩
  obtain ⟨u1, u2, e1, e2, e3⟩ := h2 i x hi
  exact ⟨u1, u2, e1, ownsRow_setCell_below e2 (a := ⟨B, j, none⟩) hB u, ownsRow_setCell_below e3 (a := ⟨B, j, none⟩) hB u⟩
theorem PcsR.row {n0 : Nat} {l : List Pc} {rv : Value} {W : World} (h : PcsR n0 l rv W) : ∃ a c xs, rv = .slice a l.length c ∧ W.ownsRow n0 29 3 rv l.length xs := by
  obtain ⟨us, -, h1, -⟩ := h
  obtain ⟨a, c, e⟩ := row_slice h1
  exact ⟨a, c, _, e, h1⟩
theorem PcsR.at {n0 : Nat} {l : List Pc} {rv : Value} {W : World} (h : PcsR n0 l rv W) (hm : l.length ≤ 100000) : PcsAt W rv l := by
  obtain ⟨us, h0, h1, h2⟩ := h
  obtain ⟨a, c, rfl⟩ := row_slice h1
  refine ⟨a, c, rfl, by unfold maxLen; omega, fun hl => ?_⟩
  rcases h1.2 with ⟨-, e⟩ | ⟨g, cap, cur, e, -, -⟩
  · exact absurd (List.length_eq_zero_iff.1 e) hl
  · obtain ⟨rfl, rfl⟩ : a = some ⟨g, 0, none⟩ ∧ c = cap := by simpa using e
    refine ⟨g, 0, rfl, fun i x hi => ?_⟩
    obtain ⟨u1, u2, e1, e2, e3⟩ := h2 i x hi
    obtain ⟨g1, g2, g3⟩ := pcs_get l us i x (u1, u2) hi e1
    have hc := fun j u q => by
      have := h1.cells (g := g) rfl j u q
      rw [Go.WideShapes.add_plain] at this
      exact this
    exact ⟨u1, u2, hc _ _ g1, by rw [Nat.add_assoc]; exact hc _ _ g2, by rw [Nat.add_assoc]; exact hc _ _ g3, ints_of_row e2, capI_row e3⟩
/-- One more piece. -/
theorem PcsR.snoc {n0 : Nat} {l : List Pc} {us : List (Value × Value)} {x : Pc} {rv rv' u1 u2 : Value} {W W' : World} (h0 : us.length = l.length) (hown : W.ownsRow n0 29 3 rv l.length (pcs l us)) (h2 : ∀ (i : Nat) (x : Pc), l[i]? = some x → ∃ u1 u2, us[i]? = some (u1, u2) ∧ W.ownsRow n0 3 1 u1 x.d.length (x.d.map (Value.int .i64)) ∧ W.ownsRow n0 3 1 u2 x.p.length (x.p.map (Value.int .i64)))
    (hu1 : W.ownsRow n0 3 1 u1 x.d.length (x.d.map (Value.int .i64))) (hu2 : W.ownsRow n0 3 1 u2 x.p.length (x.p.map (Value.int .i64))) (hgrow : W.grownBy W' rv.ownBlock) (hown' : W'.ownsRow n0 29 3 rv' (l.length + 1) (pcs l us ++ [.int .i64 x.i, u1, u2])) : PcsR n0 (l ++ [x]) rv' W' := by
  have ap : ∀ {y : Value} {z : List Int}, W.ownsRow n0 3 1 y z.length (z.map (Value.int .i64)) → W'.ownsRow n0 3 1 y z.length (z.map (Value.int .i64)) := fun hy => row_grown hy hgrow (fun k e => row_type hy hown (by decide) e)
  refine ⟨us ++ [(u1, u2)], by simp [h0], by rw [List.length_append, pcs_app _ _ _ _ h0]; exact hown', fun i y hi => ?_⟩
  by_cases hlt : i < l.length
  · rw [List.getElem?_append_left hlt] at hi
    obtain ⟨a, b, e1, e2, e3⟩ := h2 i y hi
    exact ⟨a, b, by rw [List.getElem?_append_left (by omega)]; exact e1, ap e2, ap e3⟩
  · have hi2 : i = l.length := by
      have := (List.getElem?_eq_some_iff.1 hi).1
      rw [List.length_append] at this
      simp at this
      omega
    subst hi2
    have hx : x = y := by simpa using hi
    subst hx
    exact ⟨u1, u2, by rw [← h0]; simp, ap hu1, ap hu2⟩
theorem infoPc : (Try.prog.info? 29).map (fun i => (i.zero, i.size, i.bytes)) = some (some (.agg #[.int .i64 0, .slice none 0 0, .slice none 0 0]), 3, 56) := by kernel_rfl
/-- What 'Split' answers. -/
def spP (s : Nat) (D : List Int) (k : Nat) : List Pc := (List.range k).map fun i : Nat => ⟨i, chk s D i, pthL (rowsT (lvs (chL s D))) i⟩
theorem spP_succ (s : Nat) (D : List Int) (k : Nat) : spP s D (k + 1) = spP s D k ++ [⟨k, chk s D k, pthL (rowsT (lvs (chL s D))) k⟩] := by unfold spP; rw [List.range_succ, List.map_append]; rfl
theorem spP_len (s : Nat) (D : List Int) (k : Nat) : (spP s D k).length = k := by simp [spP]
def spE (key ver s : Int) (D : List Int) : Int := if (inB 0 2147483646 key && (inB 1 1000000 ver && (inB 1 32 s && (!D.isEmpty && daB D)))) = false then 1 else if 64 < chN D.length s.toNat then 2 else 0
def spM0 (ver s : Int) (D : List Int) : Mf := ⟨ver, chN D.length s.toNat, s, rtL (chL s.toNat D), 0⟩
def spM (key ver s : Int) (D : List Int) (E : Int) : Mf := if E = 0 then ⟨ver, chN D.length s.toNat, s, rtL (chL s.toNat D), tgM key (spM0 ver s D)⟩ else zMf
def spL (s : Int) (D : List Int) (E : Int) : List Pc := if E = 0 then spP s.toNat D (chN D.length s.toNat) else []
def ChP (M : Mf) (l : List Pc) (E : Int) (w : World) (e : Ending) (w' : World) : Prop := ∃ u, e = .returned (.tuple #[.agg #[.int .i64 M.v, .int .i64 M.c, .int .i64 M.s, .int .i64 M.r, .int .i64 M.t], u, .int .i64 E]) ∧ PcsAt w' u l ∧ Below w.heap.size w w'
def ChQ (M : Mf) (l : List Pc) (E : Int) (w : World) (e : Ending) (w' : World) : Prop := ∃ u, e = .returned (.tuple #[.agg #[.int .i64 M.v, .int .i64 M.c, .int .i64 M.s, .int .i64 M.r, .int .i64 M.t], u, .int .i64 E]) ∧ PcsR w.heap.size l u w' ∧ l.length ≤ 64 ∧ Below w.heap.size w w'
theorem PcsR.low {n0 n1 : Nat} {l : List Pc} {rv : Value} {W : World} (h : PcsR n0 l rv W) (hb : n1 ≤ n0) : PcsR n1 l rv W := by
  obtain ⟨us, h0, h1, h2⟩ := h
  refine ⟨us, h0, row_base h1 hb, fun i x hi => ?_⟩
  obtain ⟨u1, u2, e1, e2, e3⟩ := h2 i x hi
  exact ⟨u1, u2, e1, row_base e2 hb, row_base e3 hb⟩
theorem ChQ.weak {M : Mf} {l : List Pc} {E : Int} {w : World} {e : Ending} {w' : World} (h : ChQ M l E w e w') : ChP M l E w e w' := by
  obtain ⟨u, h1, h2, h3, h4⟩ := h
  exact ⟨u, h1, h2.at (by omega), h4⟩
theorem chN_quo {n s : Nat} (hs : 1 ≤ s) (hn : 1 ≤ n) : (n - 1) / s + 1 = chN n s := by
  unfold chN
  rw [show n + s - 1 = n - 1 + s by omega, Nat.add_div_right _ hs]
set_option maxRecDepth 100000 in
set_option maxHeartbeats 8000000 in
theorem split_k (key ver : Int) (v : Value) (D : List Int) (w : World) (h : IntsAt w (v) D) (hn9 : D.length ≤ 9223372036854775807) (s : Int) (hk0 : inB 0 2147483646 key = false) : Calls Try.prog 11 #[.int .i64 key, .int .i64 ver, .int .i64 s, v] w (ChQ zMf [] 1 w) := by
  have HK0 := Lib.hid hk0
  clear hk0
  have HD := Lib.hid h
  obtain ⟨va, vc, rfl, hl, -⟩ := h
  unfold maxLen at hl
  have H9 := Lib.hid hn9
  have H0 := Lib.hid (Below.refl w.heap.size w)
  have H1 := Lib.hid (Cs.newB H0.out (w.heap.size) #[.int .i64 0, .int .i64 0, .int .i64 0, .int .i64 0, .int .i64 0] 24 (by simp))
  have H2 := Lib.hid (keep2 (al _ (.cells #[.int .i64 0, .int .i64 0, .int .i64 0, .int .i64 0, .int .i64 0] 24)) H0.out)
  clear H0
  go_enter Try.func11, Try.ntmps11
  have xz0 := H1.out.c 0 rfl
  have xz1 := H1.out.c 1 rfl
  have xz2 := H1.out.c 2 rfl
  have xz3 := H1.out.c 3 rfl
  have xz4 := H1.out.c 4 rfl
  have zz := H1.out.2.2
  go_wp2_with fail
  clear xz0 xz1 xz2 xz3 xz4 zz
  have H4 := Lib.hid (Cs.newB H2.out (w.heap.size + 1) #[.int .i64 key] 3 (by simp))
  have H5 := Lib.hid (H1.out.step (al _ (.cells #[.int .i64 key] 3)))
  clear H1
  have H6 := Lib.hid (keep2 (al _ (.cells #[.int .i64 key] 3)) H2.out)
  clear H2
  refine (digs_any _ [key] _ (ints_lit _ [key] #[.int .i64 key] 3 rfl (by simp) 1 rfl (w.heap.size + 1) (by simp))).mono ?_
  rintro e wq7 ⟨rfl, rfl⟩
  rw [wi_one, HK0.out]
  obtain ⟨U1, hU1⟩ : ∃ z9, ((w.alloc (.cells #[.int .i64 0, .int .i64 0, .int .i64 0, .int .i64 0, .int .i64 0] 24)).alloc (.cells #[.int .i64 key] 3)) = z9 := ⟨_, rfl⟩
  rw [hU1] at H5 H4 H6 ⊢
  clear hU1
  have xz0 := H5.out.c 0 rfl
  have xz1 := H5.out.c 1 rfl
  have xz2 := H5.out.c 2 rfl
  have xz3 := H5.out.c 3 rfl
  have xz4 := H5.out.c 4 rfl
  have zz := H5.out.2.2
  have fz0 := H5.out.f 0 (by simp)
  have fz1 := H5.out.f 1 (by simp)
  have fz2 := H5.out.f 2 (by simp)
  have fz3 := H5.out.f 3 (by simp)
  have fz4 := H5.out.f 4 (by simp)
  have HLE := Lib.hid (show w.heap.size ≤ (w.heap.size) from by omega)
  have q90 := Lib.hid (Cs.set H5.out 0 (by simp) (.int .i64 0) (vs' := #[.int .i64 0, .int .i64 0, .int .i64 0, .int .i64 0, .int .i64 0]) rfl)
  have q91 := Lib.hid (Cs.set q90.out 1 (by simp) (.int .i64 0) (vs' := #[.int .i64 0, .int .i64 0, .int .i64 0, .int .i64 0, .int .i64 0]) rfl)
  have q92 := Lib.hid (Cs.set q91.out 2 (by simp) (.int .i64 0) (vs' := #[.int .i64 0, .int .i64 0, .int .i64 0, .int .i64 0, .int .i64 0]) rfl)
  have q93 := Lib.hid (Cs.set q92.out 3 (by simp) (.int .i64 0) (vs' := #[.int .i64 0, .int .i64 0, .int .i64 0, .int .i64 0, .int .i64 0]) rfl)
  have q94 := Lib.hid (Cs.set q93.out 4 (by simp) (.int .i64 0) (vs' := #[.int .i64 0, .int .i64 0, .int .i64 0, .int .i64 0, .int .i64 0]) rfl)
  clear q90 q91 q92 q93
  go_wp2
  have hC := q94.out
  have hB := (((((H6.out.setCell (p := ⟨(w.heap.size), 0, none⟩) HLE.out (.int .i64 0)).setCell (p := ⟨(w.heap.size), 1, none⟩) HLE.out (.int .i64 0)).setCell (p := ⟨(w.heap.size), 2, none⟩) HLE.out (.int .i64 0)).setCell (p := ⟨(w.heap.size), 3, none⟩) HLE.out (.int .i64 0)).setCell (p := ⟨(w.heap.size), 4, none⟩) HLE.out (.int .i64 0))
  obtain ⟨V9, hV9⟩ : ∃ z9, (((((U1.setCell ⟨(w.heap.size), 0, none⟩ (.int .i64 0)).setCell ⟨(w.heap.size), 1, none⟩ (.int .i64 0)).setCell ⟨(w.heap.size), 2, none⟩ (.int .i64 0)).setCell ⟨(w.heap.size), 3, none⟩ (.int .i64 0)).setCell ⟨(w.heap.size), 4, none⟩ (.int .i64 0)) = z9 := ⟨_, rfl⟩
  rw [hV9] at hC hB ⊢
  clear hV9
  have k0 : V9.cell? ⟨(w.heap.size), 0, none⟩ = some (.int .i64 0) := hC.c 0 rfl
  have k1 : V9.cell? ⟨(w.heap.size), 1, none⟩ = some (.int .i64 0) := hC.c 1 rfl
  have k2 : V9.cell? ⟨(w.heap.size), 2, none⟩ = some (.int .i64 0) := hC.c 2 rfl
  have k3 : V9.cell? ⟨(w.heap.size), 3, none⟩ = some (.int .i64 0) := hC.c 3 rfl
  have k4 : V9.cell? ⟨(w.heap.size), 4, none⟩ = some (.int .i64 0) := hC.c 4 rfl
  exact bodyPost_ret (v := .tuple #[.agg #[.int .i64 0, .int .i64 0, .int .i64 0, .int .i64 0, .int .i64 0], .slice none 0 0, .int .i64 1]) (by simp [results, Try.results11, go_sem, k0, k1, k2, k3, k4]) rfl (⟨_, rfl, PcsR.nil _ _, by simp, hB⟩)
set_option maxRecDepth 100000 in
set_option maxHeartbeats 8000000 in
theorem split_v (key ver : Int) (v : Value) (D : List Int) (w : World) (h : IntsAt w (v) D) (hn9 : D.length ≤ 9223372036854775807) (s : Int) (hk0 : inB 0 2147483646 key = true) (hk1 : inB 1 1000000 ver = false) : Calls Try.prog 11 #[.int .i64 key, .int .i64 ver, .int .i64 s, v] w (ChQ zMf [] 1 w) := by
  have HK0 := Lib.hid hk0
  have HK1 := Lib.hid hk1
  clear hk0 hk1
  have HD := Lib.hid h
  obtain ⟨va, vc, rfl, hl, -⟩ := h
  unfold maxLen at hl
  have H9 := Lib.hid hn9
  have H0 := Lib.hid (Below.refl w.heap.size w)
  have H1 := Lib.hid (Cs.newB H0.out (w.heap.size) #[.int .i64 0, .int .i64 0, .int .i64 0, .int .i64 0, .int .i64 0] 24 (by simp))
  have H2 := Lib.hid (keep2 (al _ (.cells #[.int .i64 0, .int .i64 0, .int .i64 0, .int .i64 0, .int .i64 0] 24)) H0.out)
  clear H0
  go_enter Try.func11, Try.ntmps11
  have xz0 := H1.out.c 0 rfl
  have xz1 := H1.out.c 1 rfl
  have xz2 := H1.out.c 2 rfl
  have xz3 := H1.out.c 3 rfl
  have xz4 := H1.out.c 4 rfl
  have zz := H1.out.2.2
  go_wp2_with fail
  clear xz0 xz1 xz2 xz3 xz4 zz
  have H4 := Lib.hid (Cs.newB H2.out (w.heap.size + 1) #[.int .i64 key] 3 (by simp))
  have H5 := Lib.hid (H1.out.step (al _ (.cells #[.int .i64 key] 3)))
  clear H1
  have H6 := Lib.hid (keep2 (al _ (.cells #[.int .i64 key] 3)) H2.out)
  clear H2
  refine (digs_any _ [key] _ (ints_lit _ [key] #[.int .i64 key] 3 rfl (by simp) 1 rfl (w.heap.size + 1) (by simp))).mono ?_
  rintro e wq7 ⟨rfl, rfl⟩
  rw [wi_one, HK0.out]
  go_wp2_with fail
  have H9 := Lib.hid (Cs.newB H6.out (w.heap.size + 1 + 1) #[.int .i64 ver] 3 (by simp))
  have H10 := Lib.hid (H5.out.step (al _ (.cells #[.int .i64 ver] 3)))
  clear H5
  have H11 := Lib.hid (H4.out.step (al _ (.cells #[.int .i64 ver] 3)))
  clear H4
  have H12 := Lib.hid (keep2 (al _ (.cells #[.int .i64 ver] 3)) H6.out)
  clear H6
  refine (within_any 1 1000000 _ [ver] _ (ints_lit _ [ver] #[.int .i64 ver] 3 rfl (by simp) 1 rfl (w.heap.size + 1 + 1) (by simp))).mono ?_
  rintro e wq13 ⟨rfl, rfl⟩
  rw [wi_one, HK1.out]
  obtain ⟨U1, hU1⟩ : ∃ z9, (((w.alloc (.cells #[.int .i64 0, .int .i64 0, .int .i64 0, .int .i64 0, .int .i64 0] 24)).alloc (.cells #[.int .i64 key] 3)).alloc (.cells #[.int .i64 ver] 3)) = z9 := ⟨_, rfl⟩
  rw [hU1] at H10 H11 H9 H12 ⊢
  clear hU1
  have xz0 := H10.out.c 0 rfl
  have xz1 := H10.out.c 1 rfl
  have xz2 := H10.out.c 2 rfl
  have xz3 := H10.out.c 3 rfl
  have xz4 := H10.out.c 4 rfl
  have zz := H10.out.2.2
  have fz0 := H10.out.f 0 (by simp)
  have fz1 := H10.out.f 1 (by simp)
  have fz2 := H10.out.f 2 (by simp)
  have fz3 := H10.out.f 3 (by simp)
  have fz4 := H10.out.f 4 (by simp)
  have HLE := Lib.hid (show w.heap.size ≤ (w.heap.size) from by omega)
  have q90 := Lib.hid (Cs.set H10.out 0 (by simp) (.int .i64 0) (vs' := #[.int .i64 0, .int .i64 0, .int .i64 0, .int .i64 0, .int .i64 0]) rfl)
  have q91 := Lib.hid (Cs.set q90.out 1 (by simp) (.int .i64 0) (vs' := #[.int .i64 0, .int .i64 0, .int .i64 0, .int .i64 0, .int .i64 0]) rfl)
  have q92 := Lib.hid (Cs.set q91.out 2 (by simp) (.int .i64 0) (vs' := #[.int .i64 0, .int .i64 0, .int .i64 0, .int .i64 0, .int .i64 0]) rfl)
  have q93 := Lib.hid (Cs.set q92.out 3 (by simp) (.int .i64 0) (vs' := #[.int .i64 0, .int .i64 0, .int .i64 0, .int .i64 0, .int .i64 0]) rfl)
  have q94 := Lib.hid (Cs.set q93.out 4 (by simp) (.int .i64 0) (vs' := #[.int .i64 0, .int .i64 0, .int .i64 0, .int .i64 0, .int .i64 0]) rfl)
  clear q90 q91 q92 q93
  go_wp2
  have hC := q94.out
  have hB := (((((H12.out.setCell (p := ⟨(w.heap.size), 0, none⟩) HLE.out (.int .i64 0)).setCell (p := ⟨(w.heap.size), 1, none⟩) HLE.out (.int .i64 0)).setCell (p := ⟨(w.heap.size), 2, none⟩) HLE.out (.int .i64 0)).setCell (p := ⟨(w.heap.size), 3, none⟩) HLE.out (.int .i64 0)).setCell (p := ⟨(w.heap.size), 4, none⟩) HLE.out (.int .i64 0))
  obtain ⟨V9, hV9⟩ : ∃ z9, (((((U1.setCell ⟨(w.heap.size), 0, none⟩ (.int .i64 0)).setCell ⟨(w.heap.size), 1, none⟩ (.int .i64 0)).setCell ⟨(w.heap.size), 2, none⟩ (.int .i64 0)).setCell ⟨(w.heap.size), 3, none⟩ (.int .i64 0)).setCell ⟨(w.heap.size), 4, none⟩ (.int .i64 0)) = z9 := ⟨_, rfl⟩
  rw [hV9] at hC hB ⊢
  clear hV9
  have k0 : V9.cell? ⟨(w.heap.size), 0, none⟩ = some (.int .i64 0) := hC.c 0 rfl
  have k1 : V9.cell? ⟨(w.heap.size), 1, none⟩ = some (.int .i64 0) := hC.c 1 rfl
  have k2 : V9.cell? ⟨(w.heap.size), 2, none⟩ = some (.int .i64 0) := hC.c 2 rfl
  have k3 : V9.cell? ⟨(w.heap.size), 3, none⟩ = some (.int .i64 0) := hC.c 3 rfl
  have k4 : V9.cell? ⟨(w.heap.size), 4, none⟩ = some (.int .i64 0) := hC.c 4 rfl
  exact bodyPost_ret (v := .tuple #[.agg #[.int .i64 0, .int .i64 0, .int .i64 0, .int .i64 0, .int .i64 0], .slice none 0 0, .int .i64 1]) (by simp [results, Try.results11, go_sem, k0, k1, k2, k3, k4]) rfl (⟨_, rfl, PcsR.nil _ _, by simp, hB⟩)
set_option maxRecDepth 100000 in
set_option maxHeartbeats 8000000 in
theorem split_s (key ver : Int) (v : Value) (D : List Int) (w : World) (h : IntsAt w (v) D) (hn9 : D.length ≤ 9223372036854775807) (s : Int) (hk0 : inB 0 2147483646 key = true) (hk1 : inB 1 1000000 ver = true) (hk2 : inB 1 32 s = false) : Calls Try.prog 11 #[.int .i64 key, .int .i64 ver, .int .i64 s, v] w (ChQ zMf [] 1 w) := by
  have HK0 := Lib.hid hk0
  have HK1 := Lib.hid hk1
  have HK2 := Lib.hid hk2
  clear hk0 hk1 hk2
  have HD := Lib.hid h
  obtain ⟨va, vc, rfl, hl, -⟩ := h
  unfold maxLen at hl
  have H9 := Lib.hid hn9
  have H0 := Lib.hid (Below.refl w.heap.size w)
  have H1 := Lib.hid (Cs.newB H0.out (w.heap.size) #[.int .i64 0, .int .i64 0, .int .i64 0, .int .i64 0, .int .i64 0] 24 (by simp))
  have H2 := Lib.hid (keep2 (al _ (.cells #[.int .i64 0, .int .i64 0, .int .i64 0, .int .i64 0, .int .i64 0] 24)) H0.out)
  clear H0
  go_enter Try.func11, Try.ntmps11
  have xz0 := H1.out.c 0 rfl
  have xz1 := H1.out.c 1 rfl
  have xz2 := H1.out.c 2 rfl
  have xz3 := H1.out.c 3 rfl
  have xz4 := H1.out.c 4 rfl
  have zz := H1.out.2.2
  go_wp2_with fail
  clear xz0 xz1 xz2 xz3 xz4 zz
  have H4 := Lib.hid (Cs.newB H2.out (w.heap.size + 1) #[.int .i64 key] 3 (by simp))
  have H5 := Lib.hid (H1.out.step (al _ (.cells #[.int .i64 key] 3)))
  clear H1
  have H6 := Lib.hid (keep2 (al _ (.cells #[.int .i64 key] 3)) H2.out)
  clear H2
  refine (digs_any _ [key] _ (ints_lit _ [key] #[.int .i64 key] 3 rfl (by simp) 1 rfl (w.heap.size + 1) (by simp))).mono ?_
  rintro e wq7 ⟨rfl, rfl⟩
  rw [wi_one, HK0.out]
  go_wp2_with fail
  have H9 := Lib.hid (Cs.newB H6.out (w.heap.size + 1 + 1) #[.int .i64 ver] 3 (by simp))
  have H10 := Lib.hid (H5.out.step (al _ (.cells #[.int .i64 ver] 3)))
  clear H5
  have H11 := Lib.hid (H4.out.step (al _ (.cells #[.int .i64 ver] 3)))
  clear H4
  have H12 := Lib.hid (keep2 (al _ (.cells #[.int .i64 ver] 3)) H6.out)
  clear H6
  refine (within_any 1 1000000 _ [ver] _ (ints_lit _ [ver] #[.int .i64 ver] 3 rfl (by simp) 1 rfl (w.heap.size + 1 + 1) (by simp))).mono ?_
  rintro e wq13 ⟨rfl, rfl⟩
  rw [wi_one, HK1.out]
  go_wp2_with fail
  have H15 := Lib.hid (Cs.newB H12.out (w.heap.size + 1 + 1 + 1) #[.int .i64 s] 3 (by simp))
  have H16 := Lib.hid (H10.out.step (al _ (.cells #[.int .i64 s] 3)))
  clear H10
  have H17 := Lib.hid (H11.out.step (al _ (.cells #[.int .i64 s] 3)))
  clear H11
  have H18 := Lib.hid (H9.out.step (al _ (.cells #[.int .i64 s] 3)))
  clear H9
  have H19 := Lib.hid (keep2 (al _ (.cells #[.int .i64 s] 3)) H12.out)
  clear H12
  refine (within_any 1 32 _ [s] _ (ints_lit _ [s] #[.int .i64 s] 3 rfl (by simp) 1 rfl (w.heap.size + 1 + 1 + 1) (by simp))).mono ?_
  rintro e wq20 ⟨rfl, rfl⟩
  rw [wi_one, HK2.out]
  obtain ⟨U1, hU1⟩ : ∃ z9, ((((w.alloc (.cells #[.int .i64 0, .int .i64 0, .int .i64 0, .int .i64 0, .int .i64 0] 24)).alloc (.cells #[.int .i64 key] 3)).alloc (.cells #[.int .i64 ver] 3)).alloc (.cells #[.int .i64 s] 3)) = z9 := ⟨_, rfl⟩
  rw [hU1] at H16 H17 H18 H15 H19 ⊢
  clear hU1
  have xz0 := H16.out.c 0 rfl
  have xz1 := H16.out.c 1 rfl
  have xz2 := H16.out.c 2 rfl
  have xz3 := H16.out.c 3 rfl
  have xz4 := H16.out.c 4 rfl
  have zz := H16.out.2.2
  have fz0 := H16.out.f 0 (by simp)
  have fz1 := H16.out.f 1 (by simp)
  have fz2 := H16.out.f 2 (by simp)
  have fz3 := H16.out.f 3 (by simp)
  have fz4 := H16.out.f 4 (by simp)
  have HLE := Lib.hid (show w.heap.size ≤ (w.heap.size) from by omega)
  have q90 := Lib.hid (Cs.set H16.out 0 (by simp) (.int .i64 0) (vs' := #[.int .i64 0, .int .i64 0, .int .i64 0, .int .i64 0, .int .i64 0]) rfl)
  have q91 := Lib.hid (Cs.set q90.out 1 (by simp) (.int .i64 0) (vs' := #[.int .i64 0, .int .i64 0, .int .i64 0, .int .i64 0, .int .i64 0]) rfl)
  have q92 := Lib.hid (Cs.set q91.out 2 (by simp) (.int .i64 0) (vs' := #[.int .i64 0, .int .i64 0, .int .i64 0, .int .i64 0, .int .i64 0]) rfl)
  have q93 := Lib.hid (Cs.set q92.out 3 (by simp) (.int .i64 0) (vs' := #[.int .i64 0, .int .i64 0, .int .i64 0, .int .i64 0, .int .i64 0]) rfl)
  have q94 := Lib.hid (Cs.set q93.out 4 (by simp) (.int .i64 0) (vs' := #[.int .i64 0, .int .i64 0, .int .i64 0, .int .i64 0, .int .i64 0]) rfl)
  clear q90 q91 q92 q93
  go_wp2
  have hC := q94.out
  have hB := (((((H19.out.setCell (p := ⟨(w.heap.size), 0, none⟩) HLE.out (.int .i64 0)).setCell (p := ⟨(w.heap.size), 1, none⟩) HLE.out (.int .i64 0)).setCell (p := ⟨(w.heap.size), 2, none⟩) HLE.out (.int .i64 0)).setCell (p := ⟨(w.heap.size), 3, none⟩) HLE.out (.int .i64 0)).setCell (p := ⟨(w.heap.size), 4, none⟩) HLE.out (.int .i64 0))
  obtain ⟨V9, hV9⟩ : ∃ z9, (((((U1.setCell ⟨(w.heap.size), 0, none⟩ (.int .i64 0)).setCell ⟨(w.heap.size), 1, none⟩ (.int .i64 0)).setCell ⟨(w.heap.size), 2, none⟩ (.int .i64 0)).setCell ⟨(w.heap.size), 3, none⟩ (.int .i64 0)).setCell ⟨(w.heap.size), 4, none⟩ (.int .i64 0)) = z9 := ⟨_, rfl⟩
  rw [hV9] at hC hB ⊢
  clear hV9
  have k0 : V9.cell? ⟨(w.heap.size), 0, none⟩ = some (.int .i64 0) := hC.c 0 rfl
  have k1 : V9.cell? ⟨(w.heap.size), 1, none⟩ = some (.int .i64 0) := hC.c 1 rfl
  have k2 : V9.cell? ⟨(w.heap.size), 2, none⟩ = some (.int .i64 0) := hC.c 2 rfl
  have k3 : V9.cell? ⟨(w.heap.size), 3, none⟩ = some (.int .i64 0) := hC.c 3 rfl
  have k4 : V9.cell? ⟨(w.heap.size), 4, none⟩ = some (.int .i64 0) := hC.c 4 rfl
  exact bodyPost_ret (v := .tuple #[.agg #[.int .i64 0, .int .i64 0, .int .i64 0, .int .i64 0, .int .i64 0], .slice none 0 0, .int .i64 1]) (by simp [results, Try.results11, go_sem, k0, k1, k2, k3, k4]) rfl (⟨_, rfl, PcsR.nil _ _, by simp, hB⟩)
set_option maxRecDepth 100000 in
set_option maxHeartbeats 8000000 in
theorem split_z (key ver : Int) (va : Option Addr) (vc : Nat) (w : World) (h : IntsAt w (.slice va 0 vc) []) (s : Nat) (hk0 : inB 0 2147483646 key = true) (hk1 : inB 1 1000000 ver = true) (hk2 : inB 1 32 (s : Int) = true)  : Calls Try.prog 11 #[.int .i64 key, .int .i64 ver, .int .i64 (s : Int), .slice va 0 vc] w (ChQ zMf [] 1 w) := by
  have HK0 := Lib.hid hk0
  have HK1 := Lib.hid hk1
  have HK2 := Lib.hid hk2
  have HSS := Lib.hid (inB_iff.1 hk2 |> fun q => show 1 ≤ s ∧ s ≤ 32 by omega)
  clear hk0 hk1 hk2
  have HD := Lib.hid h
  skip
  have H0 := Lib.hid (Below.refl w.heap.size w)
  have H1 := Lib.hid (Cs.newB H0.out (w.heap.size) #[.int .i64 0, .int .i64 0, .int .i64 0, .int .i64 0, .int .i64 0] 24 (by simp))
  have H2 := Lib.hid (keep2 (al _ (.cells #[.int .i64 0, .int .i64 0, .int .i64 0, .int .i64 0, .int .i64 0] 24)) H0.out)
  clear H0
  go_enter Try.func11, Try.ntmps11
  have xz0 := H1.out.c 0 rfl
  have xz1 := H1.out.c 1 rfl
  have xz2 := H1.out.c 2 rfl
  have xz3 := H1.out.c 3 rfl
  have xz4 := H1.out.c 4 rfl
  have zz := H1.out.2.2
  go_wp2_with fail
  clear xz0 xz1 xz2 xz3 xz4 zz
  have H4 := Lib.hid (Cs.newB H2.out (w.heap.size + 1) #[.int .i64 key] 3 (by simp))
  have H5 := Lib.hid (H1.out.step (al _ (.cells #[.int .i64 key] 3)))
  clear H1
  have H6 := Lib.hid (keep2 (al _ (.cells #[.int .i64 key] 3)) H2.out)
  clear H2
  refine (digs_any _ [key] _ (ints_lit _ [key] #[.int .i64 key] 3 rfl (by simp) 1 rfl (w.heap.size + 1) (by simp))).mono ?_
  rintro e wq7 ⟨rfl, rfl⟩
  rw [wi_one, HK0.out]
  go_wp2_with fail
  have H9 := Lib.hid (Cs.newB H6.out (w.heap.size + 1 + 1) #[.int .i64 ver] 3 (by simp))
  have H10 := Lib.hid (H5.out.step (al _ (.cells #[.int .i64 ver] 3)))
  clear H5
  have H11 := Lib.hid (H4.out.step (al _ (.cells #[.int .i64 ver] 3)))
  clear H4
  have H12 := Lib.hid (keep2 (al _ (.cells #[.int .i64 ver] 3)) H6.out)
  clear H6
  refine (within_any 1 1000000 _ [ver] _ (ints_lit _ [ver] #[.int .i64 ver] 3 rfl (by simp) 1 rfl (w.heap.size + 1 + 1) (by simp))).mono ?_
  rintro e wq13 ⟨rfl, rfl⟩
  rw [wi_one, HK1.out]
  go_wp2_with fail
  have H15 := Lib.hid (Cs.newB H12.out (w.heap.size + 1 + 1 + 1) #[.int .i64 (s : Int)] 3 (by simp))
  have H16 := Lib.hid (H10.out.step (al _ (.cells #[.int .i64 (s : Int)] 3)))
  clear H10
  have H17 := Lib.hid (H11.out.step (al _ (.cells #[.int .i64 (s : Int)] 3)))
  clear H11
  have H18 := Lib.hid (H9.out.step (al _ (.cells #[.int .i64 (s : Int)] 3)))
  clear H9
  have H19 := Lib.hid (keep2 (al _ (.cells #[.int .i64 (s : Int)] 3)) H12.out)
  clear H12
  refine (within_any 1 32 _ [(s : Int)] _ (ints_lit _ [(s : Int)] #[.int .i64 (s : Int)] 3 rfl (by simp) 1 rfl (w.heap.size + 1 + 1 + 1) (by simp))).mono ?_
  rintro e wq20 ⟨rfl, rfl⟩
  rw [wi_one, HK2.out]
  obtain ⟨U1, hU1⟩ : ∃ z9, ((((w.alloc (.cells #[.int .i64 0, .int .i64 0, .int .i64 0, .int .i64 0, .int .i64 0] 24)).alloc (.cells #[.int .i64 key] 3)).alloc (.cells #[.int .i64 ver] 3)).alloc (.cells #[.int .i64 (s : Int)] 3)) = z9 := ⟨_, rfl⟩
  rw [hU1] at H16 H17 H18 H15 H19 ⊢
  clear hU1
  have xz0 := H16.out.c 0 rfl
  have xz1 := H16.out.c 1 rfl
  have xz2 := H16.out.c 2 rfl
  have xz3 := H16.out.c 3 rfl
  have xz4 := H16.out.c 4 rfl
  have zz := H16.out.2.2
  have fz0 := H16.out.f 0 (by simp)
  have fz1 := H16.out.f 1 (by simp)
  have fz2 := H16.out.f 2 (by simp)
  have fz3 := H16.out.f 3 (by simp)
  have fz4 := H16.out.f 4 (by simp)
  have HLE := Lib.hid (show w.heap.size ≤ (w.heap.size) from by omega)
  have q90 := Lib.hid (Cs.set H16.out 0 (by simp) (.int .i64 0) (vs' := #[.int .i64 0, .int .i64 0, .int .i64 0, .int .i64 0, .int .i64 0]) rfl)
  have q91 := Lib.hid (Cs.set q90.out 1 (by simp) (.int .i64 0) (vs' := #[.int .i64 0, .int .i64 0, .int .i64 0, .int .i64 0, .int .i64 0]) rfl)
  have q92 := Lib.hid (Cs.set q91.out 2 (by simp) (.int .i64 0) (vs' := #[.int .i64 0, .int .i64 0, .int .i64 0, .int .i64 0, .int .i64 0]) rfl)
  have q93 := Lib.hid (Cs.set q92.out 3 (by simp) (.int .i64 0) (vs' := #[.int .i64 0, .int .i64 0, .int .i64 0, .int .i64 0, .int .i64 0]) rfl)
  have q94 := Lib.hid (Cs.set q93.out 4 (by simp) (.int .i64 0) (vs' := #[.int .i64 0, .int .i64 0, .int .i64 0, .int .i64 0, .int .i64 0]) rfl)
  clear q90 q91 q92 q93
  go_wp2
  have hC := q94.out
  have hB := (((((H19.out.setCell (p := ⟨(w.heap.size), 0, none⟩) HLE.out (.int .i64 0)).setCell (p := ⟨(w.heap.size), 1, none⟩) HLE.out (.int .i64 0)).setCell (p := ⟨(w.heap.size), 2, none⟩) HLE.out (.int .i64 0)).setCell (p := ⟨(w.heap.size), 3, none⟩) HLE.out (.int .i64 0)).setCell (p := ⟨(w.heap.size), 4, none⟩) HLE.out (.int .i64 0))
  obtain ⟨V9, hV9⟩ : ∃ z9, (((((U1.setCell ⟨(w.heap.size), 0, none⟩ (.int .i64 0)).setCell ⟨(w.heap.size), 1, none⟩ (.int .i64 0)).setCell ⟨(w.heap.size), 2, none⟩ (.int .i64 0)).setCell ⟨(w.heap.size), 3, none⟩ (.int .i64 0)).setCell ⟨(w.heap.size), 4, none⟩ (.int .i64 0)) = z9 := ⟨_, rfl⟩
  rw [hV9] at hC hB ⊢
  clear hV9
  have k0 : V9.cell? ⟨(w.heap.size), 0, none⟩ = some (.int .i64 0) := hC.c 0 rfl
  have k1 : V9.cell? ⟨(w.heap.size), 1, none⟩ = some (.int .i64 0) := hC.c 1 rfl
  have k2 : V9.cell? ⟨(w.heap.size), 2, none⟩ = some (.int .i64 0) := hC.c 2 rfl
  have k3 : V9.cell? ⟨(w.heap.size), 3, none⟩ = some (.int .i64 0) := hC.c 3 rfl
  have k4 : V9.cell? ⟨(w.heap.size), 4, none⟩ = some (.int .i64 0) := hC.c 4 rfl
  exact bodyPost_ret (v := .tuple #[.agg #[.int .i64 0, .int .i64 0, .int .i64 0, .int .i64 0, .int .i64 0], .slice none 0 0, .int .i64 1]) (by simp [results, Try.results11, go_sem, k0, k1, k2, k3, k4]) rfl (⟨_, rfl, PcsR.nil _ _, by simp, hB⟩)
set_option maxRecDepth 100000 in
set_option maxHeartbeats 8000000 in
theorem split_d (key ver : Int) (v : Value) (D : List Int) (w : World) (h : IntsAt w (v) D) (hn9 : D.length ≤ 9223372036854775807) (s : Nat) (hk0 : inB 0 2147483646 key = true) (hk1 : inB 1 1000000 ver = true) (hk2 : inB 1 32 (s : Int) = true) (hn1 : 0 < D.length) (hk3 : daB D = false) : Calls Try.prog 11 #[.int .i64 key, .int .i64 ver, .int .i64 (s : Int), v] w (ChQ zMf [] 1 w) := by
  have HK0 := Lib.hid hk0
  have HK1 := Lib.hid hk1
  have HK2 := Lib.hid hk2
  have HK3 := Lib.hid hk3
  have HSS := Lib.hid (inB_iff.1 hk2 |> fun q => show 1 ≤ s ∧ s ≤ 32 by omega)
  have HN1 := Lib.hid hn1
  clear hk0 hk1 hk2 hk3 hn1
  have HD := Lib.hid h
  obtain ⟨va, vc, rfl, hl, -⟩ := h
  unfold maxLen at hl
  have H9 := Lib.hid hn9
  have H0 := Lib.hid (Below.refl w.heap.size w)
  have H1 := Lib.hid (Cs.newB H0.out (w.heap.size) #[.int .i64 0, .int .i64 0, .int .i64 0, .int .i64 0, .int .i64 0] 24 (by simp))
  have H2 := Lib.hid (keep2 (al _ (.cells #[.int .i64 0, .int .i64 0, .int .i64 0, .int .i64 0, .int .i64 0] 24)) H0.out)
  clear H0
  go_enter Try.func11, Try.ntmps11
  have xz0 := H1.out.c 0 rfl
  have xz1 := H1.out.c 1 rfl
  have xz2 := H1.out.c 2 rfl
  have xz3 := H1.out.c 3 rfl
  have xz4 := H1.out.c 4 rfl
  have zz := H1.out.2.2
  go_wp2_with fail
  clear xz0 xz1 xz2 xz3 xz4 zz
  have H4 := Lib.hid (Cs.newB H2.out (w.heap.size + 1) #[.int .i64 key] 3 (by simp))
  have H5 := Lib.hid (H1.out.step (al _ (.cells #[.int .i64 key] 3)))
  clear H1
  have H6 := Lib.hid (keep2 (al _ (.cells #[.int .i64 key] 3)) H2.out)
  clear H2
  refine (digs_any _ [key] _ (ints_lit _ [key] #[.int .i64 key] 3 rfl (by simp) 1 rfl (w.heap.size + 1) (by simp))).mono ?_
  rintro e wq7 ⟨rfl, rfl⟩
  rw [wi_one, HK0.out]
  go_wp2_with fail
  have H9 := Lib.hid (Cs.newB H6.out (w.heap.size + 1 + 1) #[.int .i64 ver] 3 (by simp))
  have H10 := Lib.hid (H5.out.step (al _ (.cells #[.int .i64 ver] 3)))
  clear H5
  have H11 := Lib.hid (H4.out.step (al _ (.cells #[.int .i64 ver] 3)))
  clear H4
  have H12 := Lib.hid (keep2 (al _ (.cells #[.int .i64 ver] 3)) H6.out)
  clear H6
  refine (within_any 1 1000000 _ [ver] _ (ints_lit _ [ver] #[.int .i64 ver] 3 rfl (by simp) 1 rfl (w.heap.size + 1 + 1) (by simp))).mono ?_
  rintro e wq13 ⟨rfl, rfl⟩
  rw [wi_one, HK1.out]
  go_wp2_with fail
  have H15 := Lib.hid (Cs.newB H12.out (w.heap.size + 1 + 1 + 1) #[.int .i64 (s : Int)] 3 (by simp))
  have H16 := Lib.hid (H10.out.step (al _ (.cells #[.int .i64 (s : Int)] 3)))
  clear H10
  have H17 := Lib.hid (H11.out.step (al _ (.cells #[.int .i64 (s : Int)] 3)))
  clear H11
  have H18 := Lib.hid (H9.out.step (al _ (.cells #[.int .i64 (s : Int)] 3)))
  clear H9
  have H19 := Lib.hid (keep2 (al _ (.cells #[.int .i64 (s : Int)] 3)) H12.out)
  clear H12
  refine (within_any 1 32 _ [(s : Int)] _ (ints_lit _ [(s : Int)] #[.int .i64 (s : Int)] 3 rfl (by simp) 1 rfl (w.heap.size + 1 + 1 + 1) (by simp))).mono ?_
  rintro e wq20 ⟨rfl, rfl⟩
  rw [wi_one, HK2.out]
  obtain ⟨U1, hU1⟩ : ∃ z9, ((((w.alloc (.cells #[.int .i64 0, .int .i64 0, .int .i64 0, .int .i64 0, .int .i64 0] 24)).alloc (.cells #[.int .i64 key] 3)).alloc (.cells #[.int .i64 ver] 3)).alloc (.cells #[.int .i64 (s : Int)] 3)) = z9 := ⟨_, rfl⟩
  rw [hU1] at H16 H17 H18 H15 H19 ⊢
  clear hU1
  have t1 : ((D.length : Int) == 0) = false := by have := HN1.out; simp; intro e; rw [e] at this; simp at this
  have t2 : ¬ D = [] := by have := HN1.out; intro e; rw [e] at this; simp at this
  have t3 : ¬ (D.length : Int) = 0 := by have := HN1.out; omega
  go_wp2_with fail
  refine (isData_any _ D _ (HD.out.step H19.out)).mono ?_
  rintro e wq21 ⟨rfl, rfl⟩
  rw [HK3.out]
  clear t1 t2 t3
  have xz0 := H16.out.c 0 rfl
  have xz1 := H16.out.c 1 rfl
  have xz2 := H16.out.c 2 rfl
  have xz3 := H16.out.c 3 rfl
  have xz4 := H16.out.c 4 rfl
  have zz := H16.out.2.2
  have fz0 := H16.out.f 0 (by simp)
  have fz1 := H16.out.f 1 (by simp)
  have fz2 := H16.out.f 2 (by simp)
  have fz3 := H16.out.f 3 (by simp)
  have fz4 := H16.out.f 4 (by simp)
  have HLE := Lib.hid (show w.heap.size ≤ (w.heap.size) from by omega)
  have q90 := Lib.hid (Cs.set H16.out 0 (by simp) (.int .i64 0) (vs' := #[.int .i64 0, .int .i64 0, .int .i64 0, .int .i64 0, .int .i64 0]) rfl)
  have q91 := Lib.hid (Cs.set q90.out 1 (by simp) (.int .i64 0) (vs' := #[.int .i64 0, .int .i64 0, .int .i64 0, .int .i64 0, .int .i64 0]) rfl)
  have q92 := Lib.hid (Cs.set q91.out 2 (by simp) (.int .i64 0) (vs' := #[.int .i64 0, .int .i64 0, .int .i64 0, .int .i64 0, .int .i64 0]) rfl)
  have q93 := Lib.hid (Cs.set q92.out 3 (by simp) (.int .i64 0) (vs' := #[.int .i64 0, .int .i64 0, .int .i64 0, .int .i64 0, .int .i64 0]) rfl)
  have q94 := Lib.hid (Cs.set q93.out 4 (by simp) (.int .i64 0) (vs' := #[.int .i64 0, .int .i64 0, .int .i64 0, .int .i64 0, .int .i64 0]) rfl)
  clear q90 q91 q92 q93
  go_wp2
  have hC := q94.out
  have hB := (((((H19.out.setCell (p := ⟨(w.heap.size), 0, none⟩) HLE.out (.int .i64 0)).setCell (p := ⟨(w.heap.size), 1, none⟩) HLE.out (.int .i64 0)).setCell (p := ⟨(w.heap.size), 2, none⟩) HLE.out (.int .i64 0)).setCell (p := ⟨(w.heap.size), 3, none⟩) HLE.out (.int .i64 0)).setCell (p := ⟨(w.heap.size), 4, none⟩) HLE.out (.int .i64 0))
  obtain ⟨V9, hV9⟩ : ∃ z9, (((((U1.setCell ⟨(w.heap.size), 0, none⟩ (.int .i64 0)).setCell ⟨(w.heap.size), 1, none⟩ (.int .i64 0)).setCell ⟨(w.heap.size), 2, none⟩ (.int .i64 0)).setCell ⟨(w.heap.size), 3, none⟩ (.int .i64 0)).setCell ⟨(w.heap.size), 4, none⟩ (.int .i64 0)) = z9 := ⟨_, rfl⟩
  rw [hV9] at hC hB ⊢
  clear hV9
  have k0 : V9.cell? ⟨(w.heap.size), 0, none⟩ = some (.int .i64 0) := hC.c 0 rfl
  have k1 : V9.cell? ⟨(w.heap.size), 1, none⟩ = some (.int .i64 0) := hC.c 1 rfl
  have k2 : V9.cell? ⟨(w.heap.size), 2, none⟩ = some (.int .i64 0) := hC.c 2 rfl
  have k3 : V9.cell? ⟨(w.heap.size), 3, none⟩ = some (.int .i64 0) := hC.c 3 rfl
  have k4 : V9.cell? ⟨(w.heap.size), 4, none⟩ = some (.int .i64 0) := hC.c 4 rfl
  exact bodyPost_ret (v := .tuple #[.agg #[.int .i64 0, .int .i64 0, .int .i64 0, .int .i64 0, .int .i64 0], .slice none 0 0, .int .i64 1]) (by simp [results, Try.results11, go_sem, k0, k1, k2, k3, k4]) rfl (⟨_, rfl, PcsR.nil _ _, by simp, hB⟩)
set_option maxRecDepth 100000 in
set_option maxHeartbeats 8000000 in
theorem split_l (key ver : Int) (v : Value) (D : List Int) (w : World) (h : IntsAt w (v) D) (hn9 : D.length ≤ 9223372036854775807) (s : Nat) (hk0 : inB 0 2147483646 key = true) (hk1 : inB 1 1000000 ver = true) (hk2 : inB 1 32 (s : Int) = true) (hn1 : 0 < D.length) (hk3 : daB D = true) (hc : 64 < chN D.length s) : Calls Try.prog 11 #[.int .i64 key, .int .i64 ver, .int .i64 (s : Int), v] w (ChQ zMf [] 2 w) := by
  have HK0 := Lib.hid hk0
  have HK1 := Lib.hid hk1
  have HK2 := Lib.hid hk2
  have HK3 := Lib.hid hk3
  have HSS := Lib.hid (inB_iff.1 hk2 |> fun q => show 1 ≤ s ∧ s ≤ 32 by omega)
  have HN1 := Lib.hid hn1
  have HCC := Lib.hid hc
  clear hk0 hk1 hk2 hk3 hn1 hc
  have HD := Lib.hid h
  obtain ⟨va, vc, rfl, hl, -⟩ := h
  unfold maxLen at hl
  have H9 := Lib.hid hn9
  have H0 := Lib.hid (Below.refl w.heap.size w)
  have H1 := Lib.hid (Cs.newB H0.out (w.heap.size) #[.int .i64 0, .int .i64 0, .int .i64 0, .int .i64 0, .int .i64 0] 24 (by simp))
  have H2 := Lib.hid (keep2 (al _ (.cells #[.int .i64 0, .int .i64 0, .int .i64 0, .int .i64 0, .int .i64 0] 24)) H0.out)
  clear H0
  go_enter Try.func11, Try.ntmps11
  have xz0 := H1.out.c 0 rfl
  have xz1 := H1.out.c 1 rfl
  have xz2 := H1.out.c 2 rfl
  have xz3 := H1.out.c 3 rfl
  have xz4 := H1.out.c 4 rfl
  have zz := H1.out.2.2
  go_wp2_with fail
  clear xz0 xz1 xz2 xz3 xz4 zz
  have H4 := Lib.hid (Cs.newB H2.out (w.heap.size + 1) #[.int .i64 key] 3 (by simp))
  have H5 := Lib.hid (H1.out.step (al _ (.cells #[.int .i64 key] 3)))
  clear H1
  have H6 := Lib.hid (keep2 (al _ (.cells #[.int .i64 key] 3)) H2.out)
  clear H2
  refine (digs_any _ [key] _ (ints_lit _ [key] #[.int .i64 key] 3 rfl (by simp) 1 rfl (w.heap.size + 1) (by simp))).mono ?_
  rintro e wq7 ⟨rfl, rfl⟩
  rw [wi_one, HK0.out]
  go_wp2_with fail
  have H9 := Lib.hid (Cs.newB H6.out (w.heap.size + 1 + 1) #[.int .i64 ver] 3 (by simp))
  have H10 := Lib.hid (H5.out.step (al _ (.cells #[.int .i64 ver] 3)))
  clear H5
  have H11 := Lib.hid (H4.out.step (al _ (.cells #[.int .i64 ver] 3)))
  clear H4
  have H12 := Lib.hid (keep2 (al _ (.cells #[.int .i64 ver] 3)) H6.out)
  clear H6
  refine (within_any 1 1000000 _ [ver] _ (ints_lit _ [ver] #[.int .i64 ver] 3 rfl (by simp) 1 rfl (w.heap.size + 1 + 1) (by simp))).mono ?_
  rintro e wq13 ⟨rfl, rfl⟩
  rw [wi_one, HK1.out]
  go_wp2_with fail
  have H15 := Lib.hid (Cs.newB H12.out (w.heap.size + 1 + 1 + 1) #[.int .i64 (s : Int)] 3 (by simp))
  have H16 := Lib.hid (H10.out.step (al _ (.cells #[.int .i64 (s : Int)] 3)))
  clear H10
  have H17 := Lib.hid (H11.out.step (al _ (.cells #[.int .i64 (s : Int)] 3)))
  clear H11
  have H18 := Lib.hid (H9.out.step (al _ (.cells #[.int .i64 (s : Int)] 3)))
  clear H9
  have H19 := Lib.hid (keep2 (al _ (.cells #[.int .i64 (s : Int)] 3)) H12.out)
  clear H12
  refine (within_any 1 32 _ [(s : Int)] _ (ints_lit _ [(s : Int)] #[.int .i64 (s : Int)] 3 rfl (by simp) 1 rfl (w.heap.size + 1 + 1 + 1) (by simp))).mono ?_
  rintro e wq20 ⟨rfl, rfl⟩
  rw [wi_one, HK2.out]
  obtain ⟨U1, hU1⟩ : ∃ z9, ((((w.alloc (.cells #[.int .i64 0, .int .i64 0, .int .i64 0, .int .i64 0, .int .i64 0] 24)).alloc (.cells #[.int .i64 key] 3)).alloc (.cells #[.int .i64 ver] 3)).alloc (.cells #[.int .i64 (s : Int)] 3)) = z9 := ⟨_, rfl⟩
  rw [hU1] at H16 H17 H18 H15 H19 ⊢
  clear hU1
  have t1 : ((D.length : Int) == 0) = false := by have := HN1.out; simp; intro e; rw [e] at this; simp at this
  have t2 : ¬ D = [] := by have := HN1.out; intro e; rw [e] at this; simp at this
  have t3 : ¬ (D.length : Int) = 0 := by have := HN1.out; omega
  go_wp2_with fail
  refine (isData_any _ D _ (HD.out.step H19.out)).mono ?_
  rintro e wq21 ⟨rfl, rfl⟩
  rw [HK3.out]
  clear t1 t2 t3
  have q1 : wrap64 ((D.length : Int) - 1) = (D.length : Int) - 1 := IntWalk.wrap64_in _ (by have := H9.out; have := HN1.out; omega)
  have q2 : ((D.length : Int) - 1).tdiv (s : Int) = (((D.length - 1) / s : Nat) : Int) := by
    have := HN1.out
    rw [show (D.length : Int) - 1 = ((D.length - 1 : Nat) : Int) by omega]
    rfl
  have q3 : ((D.length : Int) - 1) / (s : Int) = (((D.length - 1) / s : Nat) : Int) := by
    have := HN1.out
    rw [show (D.length : Int) - 1 = ((D.length - 1 : Nat) : Int) by omega]
    rfl
  have q4 : ¬ (s : Int) = 0 := by have := HSS.out; omega
  have q5 : (0 : Int) ≤ (D.length : Int) - 1 := by have := HN1.out; omega
  have HQQ := Lib.hid (chN_quo HSS.out.1 HN1.out)
  obtain ⟨qq, hqq⟩ : ∃ z9, (D.length - 1) / s = z9 := ⟨_, rfl⟩
  rw [hqq] at q2 q3 HQQ
  clear hqq
  have q0 : wrap64 (qq : Int) = (qq : Int) := IntWalk.wrap64_in _ (by have h1 := HQQ.out; have h2 := chN_le D.length s; have h3 := H9.out; omega)
  have q6 : wrap64 ((qq : Int) + 1) = (qq : Int) + 1 := IntWalk.wrap64_in _ (by have h1 := HQQ.out; have h2 := chN_le D.length s; have h3 := H9.out; omega)
  have q7 : (-1 : Int) ≤ (D.length : Int) - 1 := by omega
  have q8 : ((s : Int) == -1) = false := by first | (simp; omega) | simp
  have q9 : ¬ (s : Int) = -1 := by omega
  have c1 : (64 : Int) < (qq : Int) + 1 := by have h1 := HQQ.out; have h2 := HCC.out; omega
  have c2 : decide ((64 : Int) < (qq : Int) + 1) = true := decide_eq_true c1
  have xz0 := H16.out.c 0 rfl
  have xz1 := H16.out.c 1 rfl
  have xz2 := H16.out.c 2 rfl
  have xz3 := H16.out.c 3 rfl
  have xz4 := H16.out.c 4 rfl
  have zz := H16.out.2.2
  have fz0 := H16.out.f 0 (by simp)
  have fz1 := H16.out.f 1 (by simp)
  have fz2 := H16.out.f 2 (by simp)
  have fz3 := H16.out.f 3 (by simp)
  have fz4 := H16.out.f 4 (by simp)
  have HLE := Lib.hid (show w.heap.size ≤ (w.heap.size) from by omega)
  have q90 := Lib.hid (Cs.set H16.out 0 (by simp) (.int .i64 0) (vs' := #[.int .i64 0, .int .i64 0, .int .i64 0, .int .i64 0, .int .i64 0]) rfl)
  have q91 := Lib.hid (Cs.set q90.out 1 (by simp) (.int .i64 0) (vs' := #[.int .i64 0, .int .i64 0, .int .i64 0, .int .i64 0, .int .i64 0]) rfl)
  have q92 := Lib.hid (Cs.set q91.out 2 (by simp) (.int .i64 0) (vs' := #[.int .i64 0, .int .i64 0, .int .i64 0, .int .i64 0, .int .i64 0]) rfl)
  have q93 := Lib.hid (Cs.set q92.out 3 (by simp) (.int .i64 0) (vs' := #[.int .i64 0, .int .i64 0, .int .i64 0, .int .i64 0, .int .i64 0]) rfl)
  have q94 := Lib.hid (Cs.set q93.out 4 (by simp) (.int .i64 0) (vs' := #[.int .i64 0, .int .i64 0, .int .i64 0, .int .i64 0, .int .i64 0]) rfl)
  clear q90 q91 q92 q93
  go_wp2
  have hC := q94.out
  have hB := (((((H19.out.setCell (p := ⟨(w.heap.size), 0, none⟩) HLE.out (.int .i64 0)).setCell (p := ⟨(w.heap.size), 1, none⟩) HLE.out (.int .i64 0)).setCell (p := ⟨(w.heap.size), 2, none⟩) HLE.out (.int .i64 0)).setCell (p := ⟨(w.heap.size), 3, none⟩) HLE.out (.int .i64 0)).setCell (p := ⟨(w.heap.size), 4, none⟩) HLE.out (.int .i64 0))
  obtain ⟨V9, hV9⟩ : ∃ z9, (((((U1.setCell ⟨(w.heap.size), 0, none⟩ (.int .i64 0)).setCell ⟨(w.heap.size), 1, none⟩ (.int .i64 0)).setCell ⟨(w.heap.size), 2, none⟩ (.int .i64 0)).setCell ⟨(w.heap.size), 3, none⟩ (.int .i64 0)).setCell ⟨(w.heap.size), 4, none⟩ (.int .i64 0)) = z9 := ⟨_, rfl⟩
  rw [hV9] at hC hB ⊢
  clear hV9
  have k0 : V9.cell? ⟨(w.heap.size), 0, none⟩ = some (.int .i64 0) := hC.c 0 rfl
  have k1 : V9.cell? ⟨(w.heap.size), 1, none⟩ = some (.int .i64 0) := hC.c 1 rfl
  have k2 : V9.cell? ⟨(w.heap.size), 2, none⟩ = some (.int .i64 0) := hC.c 2 rfl
  have k3 : V9.cell? ⟨(w.heap.size), 3, none⟩ = some (.int .i64 0) := hC.c 3 rfl
  have k4 : V9.cell? ⟨(w.heap.size), 4, none⟩ = some (.int .i64 0) := hC.c 4 rfl
  exact bodyPost_ret (v := .tuple #[.agg #[.int .i64 0, .int .i64 0, .int .i64 0, .int .i64 0, .int .i64 0], .slice none 0 0, .int .i64 2]) (by simp [results, Try.results11, go_sem, k0, k1, k2, k3, k4]) rfl (⟨_, rfl, PcsR.nil _ _, by simp, hB⟩)
set_option maxRecDepth 100000 in
set_option maxHeartbeats 8000000 in
theorem split_ok (key ver : Int) (va0 : Option Addr) (vc0 : Nat) (D : List Int) (w : World) (h : IntsAt w (.slice va0 D.length vc0) D) (hn9 : D.length ≤ 5000) (s : Nat) (hk0 : inB 0 2147483646 key = true) (hk1 : inB 1 1000000 ver = true) (hk2 : inB 1 32 (s : Int) = true) (hn1 : 0 < D.length) (hk3 : daB D = true) (hc : ¬ 64 < chN D.length s) (hcp : D.length ≤ vc0) (cn : Nat) (hcn : chN D.length s = cn) (rt tg : Int) (hrt : rtL (chL s D) = rt) (htg : tgM key ⟨ver, cn, s, rt, 0⟩ = tg) : Calls Try.prog 11 #[.int .i64 key, .int .i64 ver, .int .i64 (s : Int), .slice va0 D.length vc0] w (ChQ ⟨ver, cn, s, rt, tg⟩ (spP s D cn) 0 w) := by
  have HK0 := Lib.hid hk0
  have HK1 := Lib.hid hk1
  have HK2 := Lib.hid hk2
  have HK3 := Lib.hid hk3
  have HSS := Lib.hid (inB_iff.1 hk2 |> fun q => show 1 ≤ s ∧ s ≤ 32 by omega)
  have HN1 := Lib.hid hn1
  have HCC := Lib.hid hc
  have HCP := Lib.hid hcp
  have HCN0 := Lib.hid hcn
  have HRT := Lib.hid hrt
  have HTG := Lib.hid htg
  clear hk0 hk1 hk2 hk3 hn1 hc hcp hcn hrt htg
  have HD := Lib.hid h
  have H9 := Lib.hid hn9
  obtain ⟨va, hva⟩ : ∃ z9, va0 = z9 := ⟨_, rfl⟩
  obtain ⟨vc, hvc⟩ : ∃ z9, vc0 = z9 := ⟨_, rfl⟩
  rw [hva, hvc] at HD ⊢
  rw [hvc] at HCP
  clear h hva hvc
  have H0 := Lib.hid (Below.refl w.heap.size w)
  have H1 := Lib.hid (Cs.newB H0.out (w.heap.size) #[.int .i64 0, .int .i64 0, .int .i64 0, .int .i64 0, .int .i64 0] 24 (by simp))
  have H2 := Lib.hid (keep2 (al _ (.cells #[.int .i64 0, .int .i64 0, .int .i64 0, .int .i64 0, .int .i64 0] 24)) H0.out)
  clear H0
  go_enter Try.func11, Try.ntmps11
  have xz0 := H1.out.c 0 rfl
  have xz1 := H1.out.c 1 rfl
  have xz2 := H1.out.c 2 rfl
  have xz3 := H1.out.c 3 rfl
  have xz4 := H1.out.c 4 rfl
  have zz := H1.out.2.2
  go_wp2_with fail
  clear xz0 xz1 xz2 xz3 xz4 zz
  have H4 := Lib.hid (Cs.newB H2.out (w.heap.size + 1) #[.int .i64 key] 3 (by simp))
  have H5 := Lib.hid (H1.out.step (al _ (.cells #[.int .i64 key] 3)))
  clear H1
  have H6 := Lib.hid (keep2 (al _ (.cells #[.int .i64 key] 3)) H2.out)
  clear H2
  refine (digs_any _ [key] _ (ints_lit _ [key] #[.int .i64 key] 3 rfl (by simp) 1 rfl (w.heap.size + 1) (by simp))).mono ?_
  rintro e wq7 ⟨rfl, rfl⟩
  rw [wi_one, HK0.out]
  go_wp2_with fail
  have H9 := Lib.hid (Cs.newB H6.out (w.heap.size + 1 + 1) #[.int .i64 ver] 3 (by simp))
  have H10 := Lib.hid (H5.out.step (al _ (.cells #[.int .i64 ver] 3)))
  clear H5
  have H11 := Lib.hid (H4.out.step (al _ (.cells #[.int .i64 ver] 3)))
  clear H4
  have H12 := Lib.hid (keep2 (al _ (.cells #[.int .i64 ver] 3)) H6.out)
  clear H6
  refine (within_any 1 1000000 _ [ver] _ (ints_lit _ [ver] #[.int .i64 ver] 3 rfl (by simp) 1 rfl (w.heap.size + 1 + 1) (by simp))).mono ?_
  rintro e wq13 ⟨rfl, rfl⟩
  rw [wi_one, HK1.out]
  go_wp2_with fail
  have H15 := Lib.hid (Cs.newB H12.out (w.heap.size + 1 + 1 + 1) #[.int .i64 (s : Int)] 3 (by simp))
  have H16 := Lib.hid (H10.out.step (al _ (.cells #[.int .i64 (s : Int)] 3)))
  clear H10
  have H17 := Lib.hid (H11.out.step (al _ (.cells #[.int .i64 (s : Int)] 3)))
  clear H11
  have H18 := Lib.hid (H9.out.step (al _ (.cells #[.int .i64 (s : Int)] 3)))
  clear H9
  have H19 := Lib.hid (keep2 (al _ (.cells #[.int .i64 (s : Int)] 3)) H12.out)
  clear H12
  refine (within_any 1 32 _ [(s : Int)] _ (ints_lit _ [(s : Int)] #[.int .i64 (s : Int)] 3 rfl (by simp) 1 rfl (w.heap.size + 1 + 1 + 1) (by simp))).mono ?_
  rintro e wq20 ⟨rfl, rfl⟩
  rw [wi_one, HK2.out]
  obtain ⟨U1, hU1⟩ : ∃ z9, ((((w.alloc (.cells #[.int .i64 0, .int .i64 0, .int .i64 0, .int .i64 0, .int .i64 0] 24)).alloc (.cells #[.int .i64 key] 3)).alloc (.cells #[.int .i64 ver] 3)).alloc (.cells #[.int .i64 (s : Int)] 3)) = z9 := ⟨_, rfl⟩
  rw [hU1] at H16 H17 H18 H15 H19 ⊢
  clear hU1
  have t1 : ((D.length : Int) == 0) = false := by have := HN1.out; simp; intro e; rw [e] at this; simp at this
  have t2 : ¬ D = [] := by have := HN1.out; intro e; rw [e] at this; simp at this
  have t3 : ¬ (D.length : Int) = 0 := by have := HN1.out; omega
  go_wp2_with fail
  refine (isData_any _ D _ (HD.out.step H19.out)).mono ?_
  rintro e wq21 ⟨rfl, rfl⟩
  rw [HK3.out]
  clear t1 t2 t3
  have q1 : wrap64 ((D.length : Int) - 1) = (D.length : Int) - 1 := IntWalk.wrap64_in _ (by have := H9.out; have := HN1.out; omega)
  have q2 : ((D.length : Int) - 1).tdiv (s : Int) = (((D.length - 1) / s : Nat) : Int) := by
    have := HN1.out
    rw [show (D.length : Int) - 1 = ((D.length - 1 : Nat) : Int) by omega]
    rfl
  have q3 : ((D.length : Int) - 1) / (s : Int) = (((D.length - 1) / s : Nat) : Int) := by
    have := HN1.out
    rw [show (D.length : Int) - 1 = ((D.length - 1 : Nat) : Int) by omega]
    rfl
  have q4 : ¬ (s : Int) = 0 := by have := HSS.out; omega
  have q5 : (0 : Int) ≤ (D.length : Int) - 1 := by have := HN1.out; omega
  have HQQ := Lib.hid (chN_quo HSS.out.1 HN1.out)
  obtain ⟨qq, hqq⟩ : ∃ z9, (D.length - 1) / s = z9 := ⟨_, rfl⟩
  rw [hqq] at q2 q3 HQQ
  clear hqq
  have q0 : wrap64 (qq : Int) = (qq : Int) := IntWalk.wrap64_in _ (by have h1 := HQQ.out; have h2 := chN_le D.length s; have h3 := H9.out; omega)
  have q6 : wrap64 ((qq : Int) + 1) = (qq : Int) + 1 := IntWalk.wrap64_in _ (by have h1 := HQQ.out; have h2 := chN_le D.length s; have h3 := H9.out; omega)
  have q7 : (-1 : Int) ≤ (D.length : Int) - 1 := by omega
  have q8 : ((s : Int) == -1) = false := by first | (simp; omega) | simp
  have q9 : ¬ (s : Int) = -1 := by omega
  have c1 : ¬ (64 : Int) < (qq : Int) + 1 := by have h1 := HQQ.out; have h2 := HCC.out; omega
  have c2 : decide ((64 : Int) < (qq : Int) + 1) = false := decide_eq_false c1
  obtain ⟨b, off, rfl⟩ : ∃ b off, va = some ⟨b, off, none⟩ := by
    obtain ⟨a2, c2, e2, -, hx⟩ := HD.out
    obtain ⟨b, off, e3, -⟩ := hx (by intro e; have := HN1.out; rw [e] at this; simp at this)
    have : va = a2 := by simp at e2; exact e2.1
    exact ⟨b, off, this.trans e3⟩
  go_wp2_with fail
  clear q0 q1 q2 q3 q4 q5 q6 q7 q8 q9 c1 c2
  have HCE := Lib.hid (show (qq : Int) + 1 = (chN D.length s : Int) by rw [← HQQ.out]; rfl)
  rw [HCE.out]
  have HCN := HCN0
  rw [HCN.out] at HCC ⊢
  clear HCE HQQ
  refine (chunk_any _ _ _ (s : Int) (by have := HSS.out; omega) _).mono ?_
  rintro e wq ⟨rfl, rfl⟩
  have bK := Lib.hid ((BoxN.new U1 #[.slice (some ⟨b, off, none⟩) D.length vc] 22).step (al (U1.alloc (.cells #[.slice (some ⟨b, off, none⟩) D.length vc] 22)) (.cells #[.int .i64 (s : Int)] 3)))
  have bC := Lib.hid (show BoxN ((U1.alloc (.cells #[.slice (some ⟨b, off, none⟩) D.length vc] 22)).alloc (.cells #[.int .i64 (s : Int)] 3)) (U1.heap.size + 1) #[.int .i64 (s : Int)] 3 from by
    have := BoxN.new (U1.alloc (.cells #[.slice (some ⟨b, off, none⟩) D.length vc] 22)) #[.int .i64 (s : Int)] 3
    rwa [World.size_alloc] at this)
  have H22 := Lib.hid (Cs.newB H19.out (U1.heap.size) #[.slice (some ⟨b, off, none⟩) D.length vc] 22 (by simp))
  have H23 := Lib.hid (H16.out.step (al _ (.cells #[.slice (some ⟨b, off, none⟩) D.length vc] 22)))
  clear H16
  have H24 := Lib.hid (H17.out.step (al _ (.cells #[.slice (some ⟨b, off, none⟩) D.length vc] 22)))
  clear H17
  have H25 := Lib.hid (H18.out.step (al _ (.cells #[.slice (some ⟨b, off, none⟩) D.length vc] 22)))
  clear H18
  have H26 := Lib.hid (H15.out.step (al _ (.cells #[.slice (some ⟨b, off, none⟩) D.length vc] 22)))
  clear H15
  have H27 := Lib.hid (keep2 (al _ (.cells #[.slice (some ⟨b, off, none⟩) D.length vc] 22)) H19.out)
  clear H19
  have H28 := Lib.hid (Cs.newB H27.out (U1.heap.size + 1) #[.int .i64 (s : Int)] 3 (by simp))
  have H29 := Lib.hid (H23.out.step (al _ (.cells #[.int .i64 (s : Int)] 3)))
  clear H23
  have H30 := Lib.hid (H24.out.step (al _ (.cells #[.int .i64 (s : Int)] 3)))
  clear H24
  have H31 := Lib.hid (H25.out.step (al _ (.cells #[.int .i64 (s : Int)] 3)))
  clear H25
  have H32 := Lib.hid (H26.out.step (al _ (.cells #[.int .i64 (s : Int)] 3)))
  clear H26
  have H33 := Lib.hid (H22.out.step (al _ (.cells #[.int .i64 (s : Int)] 3)))
  clear H22
  have H34 := Lib.hid (keep2 (al _ (.cells #[.int .i64 (s : Int)] 3)) H27.out)
  clear H27
  clear H33
  clear H28
  go_wp2_with fail
  refine (collect_any D b off vc s _ _ _ (HD.out.step H34.out) HSS.out.1 HSS.out.2 H9.out HCP.out bK.out bC.out).mono ?_
  rintro e u1 ⟨u, rfl, hu, b1⟩
  have H35 := Lib.hid (H29.out.step b1)
  clear H29
  have H36 := Lib.hid (H30.out.step b1)
  clear H30
  have H37 := Lib.hid (H31.out.step b1)
  clear H31
  have H38 := Lib.hid (H32.out.step b1)
  clear H32
  have H39 := Lib.hid (keep2 b1 H34.out)
  clear H34
  clear b1
  clear bK bC
  obtain ⟨LS, hLS⟩ : ∃ z9, chL s D = z9 := ⟨_, rfl⟩
  have HLS := Lib.hid hLS
  have HLL := Lib.hid (show LS.length = cn by rw [← hLS, chL_len, HCN.out])
  rw [hLS] at hu
  clear hLS
  obtain ⟨ua, uc, rfl, -, -⟩ : ∃ a c, u = .slice a LS.length c ∧ True ∧ True := by
    obtain ⟨a, c, e, -⟩ := hu
    exact ⟨a, c, e, trivial, trivial⟩
  have HRL := Lib.hid hu
  clear hu
  clear H36
  clear H37
  clear H38
  go_wp2_with fail
  obtain ⟨i0, hi0, hz0, hz1, hz2⟩ := info_parts infoPc
  have HZL := Lib.hid (show (w.heap.size) < u1.heap.size from H35.out.2.2)
  go_loopw [13, 59] (fun rv iv wr => ∃ k : Nat, k ≤ cn ∧ iv = .int .i64 (k : Int) ∧ Hid (PcsR u1.heap.size (spP s D k) rv wr) ∧ Hid (Below u1.heap.size u1 wr)) (fun _ iv _ => cn - (intOf iv).toNat)
  case atStart => exact ⟨0, by omega, rfl, Lib.hid (PcsR.nil _ _), Lib.hid (Below.refl _ _)⟩
  case round =>
    obtain ⟨k, hk, rfl, HPR, HW⟩ := hrel
    have HZ := Lib.hid (H35.out.step HW.out)
    have HL2 := Lib.hid (HRL.out.step HW.out)
    have HB := Lib.hid (keep2 HW.out H39.out)
    by_cases hlt : k < cn
    rotate_left
    · skip
      obtain rfl : k = cn := by omega
      have t3 : ¬ (k : Int) < (LS.length : Int) := by rw [HLL.out]; omega
      have t4 : ¬ k < LS.length := by rw [HLL.out]; omega
      have xz0 := HZ.out.c 0 rfl
      have xz1 := HZ.out.c 1 rfl
      have xz2 := HZ.out.c 2 rfl
      have xz3 := HZ.out.c 3 rfl
      have xz4 := HZ.out.c 4 rfl
      have zz := HZ.out.2.2
      go_wp2_with fail
      refine (root_any _ LS _ HL2.out).mono ?_
      rintro e u2 ⟨rfl, b2⟩
      clear xz0 xz1 xz2 xz3 xz4 zz
      have H40 := Lib.hid (HZ.out.step b2)
      clear HZ
      have H41 := Lib.hid (HPR.out.step b2)
      clear HPR
      have H42 := Lib.hid (HL2.out.step b2)
      clear HL2
      have H43 := Lib.hid (keep2 b2 HB.out)
      clear HB
      clear b2
      rw [show rtL LS = rt by rw [← HLS.out]; exact HRT.out]
      clear t3 t4
      have HA := Lib.hid (al u2 (.cells #[.int .i64 ver, .int .i64 (k : Int), .int .i64 (s : Int), .int .i64 rt, .int .i64 0] 24))
      have HM := Lib.hid (Cs.new u2 u2.heap.size #[.int .i64 ver, .int .i64 (k : Int), .int .i64 (s : Int), .int .i64 rt, .int .i64 0] 24 rfl)
      go_upto_region 14 with fail
      obtain ⟨U5, hU5⟩ : ∃ z9, u2.alloc (.cells #[.int .i64 ver, .int .i64 (k : Int), .int .i64 (s : Int), .int .i64 rt, .int .i64 0] 24) = z9 := ⟨_, rfl⟩
      rw [hU5] at HA HM ⊢
      clear hU5
      have xm0 := HM.out.c 0 rfl
      have xm1 := HM.out.c 1 rfl
      have xm2 := HM.out.c 2 rfl
      have xm3 := HM.out.c 3 rfl
      have xm4 := HM.out.c 4 rfl
      have xmz := HM.out.2.2
      go_wp2_with fail
      refine (tag_m key ⟨ver, (k : Int), (s : Int), rt, 0⟩ _).mono ?_
      rintro e w6 ⟨rfl, b6⟩
      rw [HTG.out]
      have HM6 := Lib.hid (HM.out.step b6)
      have HA6 := Lib.hid (HA.out.trans (b6.mono HA.out.size))
      clear b6 HM HA xmz xm0 xm1 xm2 xm3 xm4
      have xm0 := HM6.out.c 0 rfl
      have xm1 := HM6.out.c 1 rfl
      have xm2 := HM6.out.c 2 rfl
      have xm3 := HM6.out.c 3 rfl
      have xm4 := HM6.out.c 4 rfl
      have xmz := HM6.out.2.2
      have fm4 := HM6.out.f 4 (by simp)
      go_upto_region 15 with fail
      have HM7 := Lib.hid (Cs.set HM6.out 4 (by simp) (.int .i64 tg) (vs' := #[.int .i64 ver, .int .i64 (k : Int), .int .i64 (s : Int), .int .i64 rt, .int .i64 tg]) rfl)
      have HA7 := Lib.hid (HA6.out.setCell (p := ⟨u2.heap.size, 4, none⟩) (Nat.le_refl _) (.int .i64 tg))
      clear HM6 HA6 xmz fm4 xm0 xm1 xm2 xm3 xm4
      obtain ⟨U7, hU7⟩ : ∃ z9, w6.setCell ⟨u2.heap.size, 4, none⟩ (.int .i64 tg) = z9 := ⟨_, rfl⟩
      rw [hU7] at HM7 HA7 ⊢
      clear hU7
      have H44 := Lib.hid (H40.out.step HA7.out)
      have H45 := Lib.hid (H41.out.step HA7.out)
      have H46 := Lib.hid (H42.out.step HA7.out)
      have H47 := Lib.hid (keep2 HA7.out H43.out)
      have xm0 := HM7.out.c 0 rfl
      have xm1 := HM7.out.c 1 rfl
      have xm2 := HM7.out.c 2 rfl
      have xm3 := HM7.out.c 3 rfl
      have xm4 := HM7.out.c 4 rfl
      have xmz := HM7.out.2.2
      obtain ⟨ra, rc, -, rfl, -⟩ := H45.out.row
      have HPP9 := Lib.hid H45.out
      have xz0 := H44.out.c 0 rfl
      have xz1 := H44.out.c 1 rfl
      have xz2 := H44.out.c 2 rfl
      have xz3 := H44.out.c 3 rfl
      have xz4 := H44.out.c 4 rfl
      have zz := H44.out.2.2
      have fz0 := H44.out.f 0 (by simp)
      have fz1 := H44.out.f 1 (by simp)
      have fz2 := H44.out.f 2 (by simp)
      have fz3 := H44.out.f 3 (by simp)
      have fz4 := H44.out.f 4 (by simp)
      have HLE := Lib.hid (show w.heap.size ≤ (w.heap.size) from by omega)
      have q90 := Lib.hid (Cs.set H44.out 0 (by simp) (.int .i64 ver) (vs' := #[.int .i64 ver, .int .i64 0, .int .i64 0, .int .i64 0, .int .i64 0]) rfl)
      have q91 := Lib.hid (Cs.set q90.out 1 (by simp) (.int .i64 (k : Int)) (vs' := #[.int .i64 ver, .int .i64 (k : Int), .int .i64 0, .int .i64 0, .int .i64 0]) rfl)
      have q92 := Lib.hid (Cs.set q91.out 2 (by simp) (.int .i64 (s : Int)) (vs' := #[.int .i64 ver, .int .i64 (k : Int), .int .i64 (s : Int), .int .i64 0, .int .i64 0]) rfl)
      have q93 := Lib.hid (Cs.set q92.out 3 (by simp) (.int .i64 rt) (vs' := #[.int .i64 ver, .int .i64 (k : Int), .int .i64 (s : Int), .int .i64 rt, .int .i64 0]) rfl)
      have q94 := Lib.hid (Cs.set q93.out 4 (by simp) (.int .i64 tg) (vs' := #[.int .i64 ver, .int .i64 (k : Int), .int .i64 (s : Int), .int .i64 rt, .int .i64 tg]) rfl)
      clear q90 q91 q92 q93
      go_wp2
      have hC := q94.out
      have hB := (((((H47.out.setCell (p := ⟨(w.heap.size), 0, none⟩) HLE.out (.int .i64 ver)).setCell (p := ⟨(w.heap.size), 1, none⟩) HLE.out (.int .i64 (k : Int))).setCell (p := ⟨(w.heap.size), 2, none⟩) HLE.out (.int .i64 (s : Int))).setCell (p := ⟨(w.heap.size), 3, none⟩) HLE.out (.int .i64 rt)).setCell (p := ⟨(w.heap.size), 4, none⟩) HLE.out (.int .i64 tg))
      have hX := (PcsR.set (PcsR.set (PcsR.set (PcsR.set (PcsR.set HPP9.out HZL.out 0 (.int .i64 ver)) HZL.out 1 (.int .i64 (k : Int))) HZL.out 2 (.int .i64 (s : Int))) HZL.out 3 (.int .i64 rt)) HZL.out 4 (.int .i64 tg))
      obtain ⟨V9, hV9⟩ : ∃ z9, (((((U7.setCell ⟨(w.heap.size), 0, none⟩ (.int .i64 ver)).setCell ⟨(w.heap.size), 1, none⟩ (.int .i64 (k : Int))).setCell ⟨(w.heap.size), 2, none⟩ (.int .i64 (s : Int))).setCell ⟨(w.heap.size), 3, none⟩ (.int .i64 rt)).setCell ⟨(w.heap.size), 4, none⟩ (.int .i64 tg)) = z9 := ⟨_, rfl⟩
      rw [hV9] at hC hB hX ⊢
      clear hV9
      have k0 : V9.cell? ⟨(w.heap.size), 0, none⟩ = some (.int .i64 ver) := hC.c 0 rfl
      have k1 : V9.cell? ⟨(w.heap.size), 1, none⟩ = some (.int .i64 (k : Int)) := hC.c 1 rfl
      have k2 : V9.cell? ⟨(w.heap.size), 2, none⟩ = some (.int .i64 (s : Int)) := hC.c 2 rfl
      have k3 : V9.cell? ⟨(w.heap.size), 3, none⟩ = some (.int .i64 rt) := hC.c 3 rfl
      have k4 : V9.cell? ⟨(w.heap.size), 4, none⟩ = some (.int .i64 tg) := hC.c 4 rfl
      exact bodyPost_ret (v := .tuple #[.agg #[.int .i64 ver, .int .i64 (k : Int), .int .i64 (s : Int), .int .i64 rt, .int .i64 tg], .slice ra (spP s D k).length rc, .int .i64 0]) (by simp [results, Try.results11, go_sem, k0, k1, k2, k3, k4]) rfl (⟨_, rfl, hX.low (by have := HZL.out; omega), by rw [spP_len]; have := HCC.out; omega, hB⟩)
    have HIL := Lib.hid hlt
    have hlL : k < LS.length := by rw [HLL.out]; exact hlt
    have HSU := Lib.hid (spP_succ s D k)
    have HPL := Lib.hid (spP_len s D k)
    have HGE := Lib.hid (show LS.getD k [] = chk s D k by rw [← HLS.out]; exact chL_get (by rw [HCN.out]; exact hlt))
    obtain ⟨bb, of2, rfl, ya, yc, x0, xz, hy⟩ := rows_at HL2.out hlL
    have HY := Lib.hid hy
    clear hy
    have t3 : (k : Int) < (LS.length : Int) := by omega
    have h8 : (LS.getD k []).length ≤ 100000 := by rw [HGE.out, chk_len]; unfold chZ; have := HSS.out.2; omega
    rw [HGE.out] at x0 HY h8
    obtain ⟨x, hx⟩ : ∃ z9, chk s D k = z9 := ⟨_, rfl⟩
    have HXX := Lib.hid hx
    rw [hx] at x0 HY h8
    clear hx
    go_wp2_with fail
    clear t3
    refine (in_clone _ x _ HY.out h8).mono ?_
    rintro e u2 ⟨v1, rfl, hu1, b2⟩
    have BQ1 := Lib.hid b2
    clear x0 xz
    have H40 := Lib.hid (HL2.out.step b2)
    clear HL2
    have H41 := Lib.hid (HY.out.step b2)
    clear HY
    have H42 := Lib.hid (keep2 b2 HB.out)
    clear HB
    clear b2
    have HP1 := Lib.hid (HPR.out.step BQ1.out)
    have HU1 := Lib.hid (row_base hu1 HW.out.size)
    have HW1 := Lib.hid (keep2 BQ1.out HW.out)
    clear hu1 HPR
    go_wp2_with fail
    refine (path_own _ LS k _ H40.out (by rw [HLL.out]; have := HCC.out; omega) hlL).mono ?_
    rintro e u3 ⟨v2, rfl, hu2, b3⟩
    have BQ2 := Lib.hid b3
    have H43 := Lib.hid (H40.out.step b3)
    clear H40
    have H44 := Lib.hid (H41.out.step b3)
    clear H41
    have H45 := Lib.hid (keep2 b3 H42.out)
    clear H42
    clear b3
    have HP2 := Lib.hid (HP1.out.step BQ2.out)
    have HU12 := Lib.hid (row_step HU1.out BQ2.out)
    have HU2 := Lib.hid (row_base hu2 HW1.out.size)
    have HW2 := Lib.hid (keep2 BQ2.out HW1.out)
    clear hu2 HP1 HU1 HW1
    obtain ⟨us, hus, hrow, hall⟩ := HP2.out
    obtain ⟨a1, c1, rfl⟩ := row_slice HU12.out
    obtain ⟨a2, c2, rfl⟩ := row_slice HU2.out
    obtain ⟨P, hP⟩ : ∃ z9, pthL (rowsT (lvs LS)) k = z9 := ⟨_, rfl⟩
    have HPP := Lib.hid (show spP s D (k + 1) = spP s D k ++ [⟨k, x, P⟩] by rw [HSU.out, HLS.out, hP, HXX.out])
    rw [hP] at HU2 ⊢
    clear hP
    rw [HPL.out] at hrow
    have HROW := Lib.hid hrow
    have HALL := Lib.hid hall
    have HUS := Lib.hid hus
    clear hrow hall hus HP2
    have HNW := Lib.hid (show ∀ j u, ([.int .i64 (k : Int), .slice a1 x.length c1, .slice a2 P.length c2] : List Value)[j]? = some u → (u3.alloc (.cells #[.int .i64 (k : Int), .slice a1 x.length c1, .slice a2 P.length c2] 29)).cell? ((⟨u3.heap.size, 0, none⟩ : Addr).add j) = some u from World.news_of_block (BoxN.new u3 #[.int .i64 (k : Int), .slice a1 x.length c1, .slice a2 P.length c2] 29))
    have HSZ := Lib.hid HW2.out.size
    have hk9 : k ≤ 64 := by have := HCC.out; omega
    go_wp2_with (at_builtin; refine wpList_append_own _ rfl _ _ 32 rfl u1.heap.size 29 i0 _ 3 56 Try.underlying32 hi0 hz0 hz1 hz2 rfl (by decide) _ _ _ rfl (HROW.out.alloc _) ⟨u3.heap.size, 0, none⟩ 1 1 [.int .i64 (k : Int), .slice a1 x.length c1, .slice a2 P.length c2] rfl rfl HNW.out (by simp [Value.oneCell']) (by unfold maxLen; omega) (by omega) (by have := HSZ.out; simp; omega) ?_; intro v8 w8 ho8 hg8 _; have HG8 := Lib.hid hg8; have HO8 := Lib.hid ho8; clear ho8 hg8)
    have HB8 := Lib.hid (below_own (Nat.le_refl _) HW2.out HROW.out HG8.out)
    have HP8 := Lib.hid (PcsR.snoc (x := ⟨(k : Int), x, P⟩) (l := spP s D k) HUS.out (by rw [HPL.out]; exact HROW.out.alloc (.cells #[.int .i64 (k : Int), .slice a1 x.length c1, .slice a2 P.length c2] 29)) (fun i y hi => by
      obtain ⟨p1, p2, e1, e2, e3⟩ := HALL.out i y hi
      exact ⟨p1, p2, e1, row_step e2 (al _ _), row_step e3 (al _ _)⟩) (row_step HU12.out (al _ _)) (row_step HU2.out (al _ _)) HG8.out (by rw [HPL.out]; exact HO8.out))
    go_roundw
    case rel => exact ⟨k + 1, HIL.out, by go_num, (by rw [HPP.out]; exact HP8), HB8⟩
    case measure => have := HIL.out; simp [intOf]; omega
set_option maxRecDepth 100000 in
set_option maxHeartbeats 8000000 in
theorem split_own (key ver s : Int) (va : Option Addr) (vc : Nat) (D : List Int) (w : World) (h : IntsAt w (.slice va D.length vc) D) (hn9 : D.length ≤ 9223372036854775807) (hcp : D.length ≤ vc) {E : Int} {M : Mf} {l : List Pc} (hE : spE key ver s D = E) (hM : spM key ver s D E = M) (hL : spL s D E = l) : Calls Try.prog 11 #[.int .i64 key, .int .i64 ver, .int .i64 s, .slice va D.length vc] w (ChQ M l E w) := by
  subst hM hL hE
  have one : (inB 0 2147483646 key && (inB 1 1000000 ver && (inB 1 32 s && (!D.isEmpty && daB D)))) = false → spE key ver s D = 1 := fun h => by unfold spE; rw [if_pos h]
  cases h0 : inB 0 2147483646 key
  · rw [one (by rw [h0]; rfl)]; exact split_k key ver _ D w h hn9 s h0
  · cases h1 : inB 1 1000000 ver
    · rw [one (by rw [h0, h1]; rfl)]; exact split_v key ver _ D w h hn9 s h0 h1
    · cases h2 : inB 1 32 s
      · rw [one (by rw [h0, h1, h2]; rfl)]; exact split_s key ver _ D w h hn9 s h0 h1 h2
      · obtain ⟨sn, rfl⟩ := Int.eq_ofNat_of_zero_le (show 0 ≤ s by have := (inB_iff.1 h2).1; omega)
        cases D with
        | nil => rw [one (by rw [h0, h1, h2]; rfl)]; exact split_z key ver va vc w h sn h0 h1 h2
        | cons y D =>
          have hp : 0 < (y :: D).length := by simp
          cases h3 : daB (y :: D)
          · rw [one (by rw [h0, h1, h2, h3]; rfl)]; exact split_d key ver _ _ w h hn9 sn h0 h1 h2 hp h3
          · have hall : ¬ (inB 0 2147483646 key && (inB 1 1000000 ver && (inB 1 32 (sn : Int) && (!(y :: D).isEmpty && daB (y :: D))))) = false := by rw [h0, h1, h2, h3]; simp
            by_cases hc : 64 < chN (y :: D).length sn
            · have : spE key ver (sn : Int) (y :: D) = 2 := by unfold spE; rw [if_neg hall, if_pos (by simpa using hc)]
              rw [this]; exact split_l key ver _ _ w h hn9 sn h0 h1 h2 hp h3 hc
            · have : spE key ver (sn : Int) (y :: D) = 0 := by unfold spE; rw [if_neg hall, if_neg (by simpa using hc)]
              rw [this]; exact split_ok key ver va vc _ w h (by
                have g1 := (inB_iff.1 h2).2
                have g2 := (inB_iff.1 h2).1
                have g3 : ¬ 64 * sn < (y :: D).length := fun q => hc ((chN_lt (by omega)).2 q)
                omega) sn h0 h1 h2 hp h3 hc hcp _ rfl _ _ rfl rfl
theorem split_any (key ver s : Int) (va : Option Addr) (vc : Nat) (D : List Int) (w : World) (h : IntsAt w (.slice va D.length vc) D) (hn9 : D.length ≤ 9223372036854775807) (hcp : D.length ≤ vc) {E : Int} {M : Mf} {l : List Pc} (hE : spE key ver s D = E) (hM : spM key ver s D E = M) (hL : spL s D E = l) : Calls Try.prog 11 #[.int .i64 key, .int .i64 ver, .int .i64 s, .slice va D.length vc] w (ChP M l E w) :=
  (split_own key ver s va vc D w h hn9 hcp hE hM hL).mono fun _ _ h => h.weak
end Go.Proofs.Yteodafhgfcbdpaa
