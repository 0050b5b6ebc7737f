import Derived.Test.YteodafhgfcbdpaaTi
import Derived.Test.YteodafhgfcbdpaaWi
namespace Go.Proofs.Yteodafhgfcbdpaa
open Go.RowKit

/-- A list of pieces, as the reference makes it. -/
def PciAt (w : World) (v : Value) (l : List Pc) : Prop :=
  ∃ a cap, v = .slice a l.length cap ∧ l.length ≤ maxLen ∧ (l ≠ [] → ∃ b off, a = some ⟨b, off, none⟩ ∧ ∀ (i : Nat) (x : Pc), l[i]? = some x → ∃ u1 u2, w.cell? ⟨b, off + i * 3, none⟩ = some (.int .i64 x.i) ∧ w.cell? ⟨b, off + i * 3 + 1, none⟩ = some u1 ∧ w.cell? ⟨b, off + i * 3 + 2, none⟩ = some u2 ∧ IntsAt w u1 x.d ∧ IntsAt w u2 x.p)
theorem PciAt.step {w w1 : World} {v : Value} {l : List Pc} (h : PciAt w v l) (hb : Below w.heap.size w w1) : PciAt w1 v l := by
  obtain ⟨a, cap, hv, hm, hc⟩ := h
  refine ⟨a, cap, hv, hm, fun hl => ?_⟩
  obtain ⟨b, off, ha, hx⟩ := hc hl
  refine ⟨b, off, ha, fun i x hi => ?_⟩
  obtain ⟨u1, u2, h1, h2, h3, h4, h5⟩ := hx i x hi
  exact ⟨u1, u2, keep1 hb h1, keep1 hb h2, keep1 hb h3, h4.step hb, h5.step hb⟩
theorem pci_of {w : World} {v : Value} {l : List Pc} (h : PcsAt w v l) : PciAt w v l := by
  obtain ⟨a, cap, hv, hm, hc⟩ := h
  refine ⟨a, cap, hv, hm, fun hl => ?_⟩
  obtain ⟨b, off, ha, hx⟩ := hc hl
  refine ⟨b, off, ha, fun i x hi => ?_⟩
  obtain ⟨u1, u2, h1, h2, h3, h4, h5⟩ := hx i x hi
  exact ⟨u1, u2, h1, h2, h3, h4, h5.1⟩
/-- A new list of pieces; their data lie in an earlier world. -/
def PciR (w0 : World) (n0 : Nat) (l : List Pc) (rv : Value) (W : World) : Prop :=
  ∃ us : List (Value × Value), us.length = l.length ∧ W.ownsRow n0 29 3 rv l.length (pcs l us) ∧ ∀ (i : Nat) (x : Pc), l[i]? = some x → ∃ u1 u2, us[i]? = some (u1, u2) ∧ IntsAt w0 u1 x.d ∧ W.ownsRow n0 3 1 u2 x.p.length (x.p.map (Value.int .i64))
theorem PciR.nil (w0 : World) (n0 : Nat) (W : World) : PciR w0 n0 [] (.slice none 0 0) W := ⟨[], rfl, World.ownsRow_nil _ _ _ _, fun i x h => by simp at h⟩
theorem PciR.step {w0 : World} {n0 : Nat} {l : List Pc} {rv : Value} {W W' : World} (h : PciR w0 n0 l rv W) (hb : Below W.heap.size W W') : PciR w0 n0 l rv W' := by
  obtain ⟨us, h0, h1, h2⟩ := h
  refine ⟨us, h0, row_step h1 hb, fun i x hi => ?_⟩
  obtain ⟨u1, u2, e1, e2, e3⟩ := h2 i x hi
  exact ⟨u1, u2, e1, e2, row_step e3 hb⟩
theorem PciR.set {w0 : World} {n0 B : Nat} {l : List Pc} {rv : Value} {W : World} (h : PciR w0 n0 l rv W) (hB : B < n0) (j : Nat) (u : Value) : PciR w0 n0 l rv (W.setCell ⟨B, j, none⟩ u) := by
  obtain ⟨us, h0, h1, h2⟩ := h
  refine ⟨us, h0, ?_, fun i x hi => ?_⟩
  · exact ownsRow_setCell_below h1 (a := ⟨B, j, none⟩) hB u
  · obtain ⟨u1, u2, e1, e2, e3⟩ := h2 i x hi
    refine ⟨u1, u2, e1, e2, ?_⟩
    exact ownsRow_setCell_below e3 (a := ⟨B, j, none⟩) hB u
theorem PciR.row {w0 : World} {n0 : Nat} {l : List Pc} {rv : Value} {W : World} (h : PciR w0 n0 l rv W) : ∃ a c, rv = .slice a l.length c := by
  obtain ⟨us, -, h1, -⟩ := h
  exact row_slice h1
theorem PciR.at {w0 : World} {n0 : Nat} {l : List Pc} {rv : Value} {W : World} (h : PciR w0 n0 l rv W) (hb : Below w0.heap.size w0 W) (hm : l.length ≤ 100000) : PciAt W rv l := by
  obtain ⟨us, h0, h1, h2⟩ := h
  obtain ⟨a, c, rfl⟩ := row_slice h1
  refine ⟨a, c, rfl, by unfold maxLen; omega, fun hl => ?_⟩
  rcases h1.2 with ⟨-, e⟩ | ⟨g, cap, cur, e, -, -⟩
  · exact absurd (List.length_eq_zero_iff.1 e) hl
  · obtain ⟨rfl, rfl⟩ : a = some ⟨g, 0, none⟩ ∧ c = cap := by simpa using e
    refine ⟨g, 0, rfl, fun i x hi => ?_⟩
    obtain ⟨u1, u2, e1, e2, e3⟩ := h2 i x hi
    obtain ⟨g1, g2, g3⟩ := pcs_get l us i x (u1, u2) hi e1
    have hc := fun j u q => by
      have := h1.cells (g := g) rfl j u q
      rw [Go.WideShapes.add_plain] at this
      exact this
    exact ⟨u1, u2, hc _ _ g1, by rw [Nat.add_assoc]; exact hc _ _ g2, by rw [Nat.add_assoc]; exact hc _ _ g3, e2.step hb, ints_of_row e3⟩
theorem PciR.app {w0 W : World} {n0 g : Nat} {l l' : List Pc} {a : Option Addr} {c : Nat} {x : Pc} {u1 u2 : Value} (h : PciR w0 n0 l (.slice a l.length c) W) (hx : BoxN W g #[.int .i64 x.i, u1, u2] 29) (h1 : IntsAt w0 u1 x.d) (h2 : W.ownsRow n0 3 1 u2 x.p.length (x.p.map (Value.int .i64))) (hl : l.length ≤ 100000) (hl' : l' = l ++ [x]) (hn : n0 ≤ W.heap.size) :
    ∃ (a' : Option Addr) (c' : Nat) (W' : World), (Builtin.append_ #[32, 32] 32 #[.slice a l.length c, .slice (some ⟨g, 0, none⟩) 1 1]).run Try.prog W = .ok (.slice a' l'.length c') W' ∧ Below n0 W W' ∧ PciR w0 n0 l' (.slice a' l'.length c') W' := by
  obtain ⟨us, h0, hown, hall⟩ := h
  have nx7 : ∀ j u, ([.int .i64 x.i, u1, u2] : List Value)[j]? = some u → W.cell? ((⟨g, 0, none⟩ : Addr).add j) = some u := World.news_of_block hx
  have o1 : u1.oneCell' = true := by obtain ⟨a1, c1, e, -⟩ := h1; rw [e]; rfl
  have o2 : u2.oneCell' = true := by obtain ⟨a1, c1, e⟩ := row_slice h2; rw [e]; rfl
  obtain ⟨i0, hi, hz0, hz1, hz2⟩ := info_parts infoPc
  obtain ⟨v8, w8, hr8, ho8, hg8, -, -⟩ := run_append_own_at (P := Try.prog) W n0 32 32 29 i0 _ 3 56 Try.underlying32 hi hz0 hz1 hz2 rfl (by decide) (.slice a l.length c) l.length (pcs l us) hown ⟨g, 0, none⟩ 1 1 [.int .i64 x.i, u1, u2] rfl nx7 (by simp [o1, o2]; rfl) (by unfold maxLen; omega) (by omega) hn
  have e1 : l'.length = l.length + 1 := by rw [hl']; simp
  obtain ⟨a', c', rfl⟩ := row_slice ho8
  have ap : ∀ {y : Value} {z : List Int}, W.ownsRow n0 3 1 y z.length (z.map (Value.int .i64)) → w8.ownsRow n0 3 1 y z.length (z.map (Value.int .i64)) := fun hy => row_grown hy hg8 (fun k e => row_type hy hown (by decide) e)
  refine ⟨a', c', w8, by rw [e1]; exact hr8, (Below.refl n0 W).grown hg8 hn (fun k e => row_own hown e), us ++ [(u1, u2)], by rw [e1]; simp [h0], by rw [e1, hl', pcs_app _ _ _ _ h0]; exact ho8, fun i y hi => ?_⟩
  rw [hl'] at hi
  by_cases hlt : i < l.length
  · rw [List.getElem?_append_left hlt] at hi
    obtain ⟨a, b, e1, e2, e3⟩ := hall i y hi
    exact ⟨a, b, by rw [List.getElem?_append_left (by omega)]; exact e1, e2, ap e3⟩
  · have hi2 : i = l.length := by
      have := (List.getElem?_eq_some_iff.1 hi).1
      rw [List.length_append] at this
      simp at this
      omega
    subst hi2
    have hx : x = y := by simpa using hi
    subst hx
    exact ⟨u1, u2, by rw [← h0]; simp, h1, ap h2⟩
def ChI (M : Mf) (l : List Pc) (E : Int) (w : World) (e : Ending) (w' : World) : Prop := ∃ u, e = .returned (.tuple #[.agg #[.int .i64 M.v, .int .i64 M.c, .int .i64 M.s, .int .i64 M.r, .int .i64 M.t], u, .int .i64 E]) ∧ PciAt w' u l ∧ Below w.heap.size w w'
theorem pci_nil (w : World) : PciAt w (.slice none 0 0) [] := ⟨none, 0, rfl, by simp, fun h => absurd rfl h⟩
def QpP (n0 : Nat) (P : List Int) (b : Bool) (v : Value) (w : World) : Prop := ∃ a c, v = .slice a P.length c ∧ (b = false → w.ownsRow n0 3 1 v P.length (P.map (Value.int .i64)))
theorem QpP.step {n0 : Nat} {P : List Int} {b : Bool} {v : Value} {w w' : World} (h : QpP n0 P b v w) (hb : Below w.heap.size w w') : QpP n0 P b v w' := by
  obtain ⟨a, c, e, h⟩ := h
  exact ⟨a, c, e, fun q => row_step (h q) hb⟩
theorem QpP.put {n0 : Nat} {P : List Int} {b : Bool} {v : Value} {w : World} (h : QpP n0 P b v w) (w' : World) : QpP n0 P true v w' := by
  obtain ⟨a, c, e, h⟩ := h
  exact ⟨a, c, e, fun q => by cases q⟩
def QpA (n0 : Nat) (i : Int) (u1 : Value) (P : List Int) (b : Bool) (v : Value) (w : World) : Prop := ∃ a c, v = .agg #[.int .i64 i, u1, .slice a P.length c] ∧ (b = false → w.ownsRow n0 3 1 (.slice a P.length c) P.length (P.map (Value.int .i64)))
theorem QpA.step {n0 : Nat} {i : Int} {u1 : Value} {P : List Int} {b : Bool} {v : Value} {w w' : World} (h : QpA n0 i u1 P b v w) (hb : Below w.heap.size w w') : QpA n0 i u1 P b v w' := by
  obtain ⟨a, c, e, h⟩ := h
  exact ⟨a, c, e, fun q => row_step (h q) hb⟩
theorem QpA.put {n0 : Nat} {i : Int} {u1 : Value} {P : List Int} {b : Bool} {v : Value} {w : World} (h : QpA n0 i u1 P b v w) (w' : World) : QpA n0 i u1 P true v w' := by
  obtain ⟨a, c, e, h⟩ := h
  exact ⟨a, c, e, fun q => by cases q⟩
def QpS (n0 : Nat) (i : Int) (u1 : Value) (P : List Int) (b : Bool) (v : Value) (w : World) : Prop := ∃ g, v = .slice (some ⟨g, 0, none⟩) 1 1 ∧ (b = false → ∃ a c, BoxN w g #[.int .i64 i, u1, .slice a P.length c] 29 ∧ w.ownsRow n0 3 1 (.slice a P.length c) P.length (P.map (Value.int .i64)))
theorem QpS.step {n0 : Nat} {i : Int} {u1 : Value} {P : List Int} {b : Bool} {v : Value} {w w' : World} (h : QpS n0 i u1 P b v w) (hb : Below w.heap.size w w') : QpS n0 i u1 P b v w' := by
  obtain ⟨g, e, h⟩ := h
  exact ⟨g, e, fun q => by obtain ⟨a, c, h1, h2⟩ := h q; exact ⟨a, c, h1.step hb, row_step h2 hb⟩⟩
theorem QpS.put {n0 : Nat} {i : Int} {u1 : Value} {P : List Int} {b : Bool} {v : Value} {w : World} (h : QpS n0 i u1 P b v w) (w' : World) : QpS n0 i u1 P true v w' := by
  obtain ⟨g, e, h⟩ := h
  exact ⟨g, e, fun q => by cases q⟩
def QpZ (w0 : World) (n0 : Nat) (l : List Pc) (b : Bool) (v : Value) (w : World) : Prop := ∃ a c, v = .slice a l.length c ∧ (b = true → PciR w0 n0 l v w)
theorem QpZ.off {w0 : World} {n0 : Nat} {l : List Pc} {b : Bool} {v : Value} {w w' : World} (h : QpZ w0 n0 l b v w) (hd : b = false) : QpZ w0 n0 l b v w' := by
  obtain ⟨a, c, e, -⟩ := h
  exact ⟨a, c, e, fun q => absurd (q.symm.trans hd) (by simp)⟩
/-- As NS, with a slot that is read before it is written. -/
def NZ (lit : (Nat → Value) → Act) (s z : Nat) (z0 : Value) (ed : Nat → Nat → Bool) (G : Bool → Nat → Value → World → Prop) (B : Bool → World → Prop) (bf : Nat → Bool) (ac : Act) (wv : World) : Prop :=
  ∃ vs, ac = lit vs ∧ (bf z = false → vs z = z0) ∧ (∀ p q, ed p q = true → bf p = true → bf q = true) ∧ B (bf s) wv ∧ ∀ i, bf i = true → G (bf s) i (vs i) wv
section
variable {lit : (Nat → Value) → Act} {s z : Nat} {z0 : Value} {ed : Nat → Nat → Bool} {G : Bool → Nat → Value → World → Prop} {B : Bool → World → Prop}
theorem NZ.start {ac : Act} {wv : World} (vs : Nat → Value) (hac : ac = lit vs) (hb : B false wv) (hz : vs z = z0) : NZ lit s z z0 ed G B (fun _ => false) ac wv :=
  ⟨vs, hac, fun _ => hz, fun _ _ _ h => (by cases h), hb, fun i h => (by cases h)⟩
theorem NZ.next {bf : Nat → Bool} {wv : World} {vs : Nat → Value} (hz : bf z = false → vs z = z0) (i : Nat) (hi : s ≠ i) (ha : ∀ q, ed i q = true → bf q = true) {x : Value} {w' : World} {ac' : Act} (hac : ac' = lit (upv vs i x))
    (k : (∀ p q, ed p q = true → bf p = true → bf q = true) ∧ ∀ i, bf i = true → G (bf s) i (vs i) wv) (hb : B (bf s) w') (hs : ∀ k, bf k = true → G (bf s) k (vs k) wv → G (bf s) k (vs k) w') (hx : G (bf s) i x w') : NZ lit s z z0 ed G B (up bf i) ac' w' := by
  refine ⟨upv vs i x, hac, fun h => ?_, up_closed k.1 ha, by rw [up_ne _ _ _ hi]; exact hb, fun j hu => ?_⟩
  · by_cases e : z = i
    · subst e; rw [up_same] at h; cases h
    · rw [up_ne _ _ _ e] at h; rw [upv_ne _ _ _ _ e]; exact hz h
  · rw [up_ne _ _ _ hi]
    by_cases e : j = i
    · subst e; rw [upv_same]; exact hx
    · rw [up_ne _ _ _ e] at hu; rw [upv_ne _ _ _ _ e]; exact hs _ hu (k.2 j hu)
theorem NZ.piv {bf : Nat → Bool} {vs : Nat → Value} {x : Value} {w' : World} {ac' : Act} (hz : bf z = false → vs z = z0) (hne : z ≠ s) (hac : ac' = lit (upv vs s x)) (hn : (∀ p q, ed p q = true → bf p = true → bf q = true) ∧ ∀ q, ed s q = true → bf q = true) (hb : B true w') (hs : ∀ k, k ≠ s → bf k = true → G true k (vs k) w') (hx : G true s x w') : NZ lit s z z0 ed G B (up bf s) ac' w' := by
  refine ⟨upv vs s x, hac, fun h => ?_, up_closed hn.1 hn.2, by rw [up_same]; exact hb, fun j hu => ?_⟩
  · rw [up_ne _ _ _ hne] at h; rw [upv_ne _ _ _ _ hne]; exact hz h
  · rw [up_same]
    by_cases e : j = s
    · subst e; rw [upv_same]; exact hx
    · rw [up_ne _ _ _ e] at hu; rw [upv_ne _ _ _ _ e]; exact hs j e hu
end
set_option maxRecDepth 100000 in
set_option maxHeartbeats 8000000 in
theorem rsplit_k (key ver : Int) (v : Value) (D : List Int) (w : World) (h : IntsAt w (v) D) (hn9 : D.length ≤ 5000) (s : Int) (hk0 : inB 0 2147483646 key = false) : Calls Try.prog 12 #[.int .i64 key, .int .i64 ver, .int .i64 s, v] w (ChI zMf [] 1 w) := by
  have HK0 := Lib.hid hk0
  clear hk0
  have HD := Lib.hid h
  obtain ⟨va, vc, rfl, -, -⟩ := h
  have H9 := Lib.hid hn9
  have H0 := Lib.hid (Below.refl w.heap.size w)
  have H1 := Lib.hid (Cs.newB H0.out (w.heap.size) #[.int .i64 0, .int .i64 0, .int .i64 0, .int .i64 0, .int .i64 0] 24 (by simp))
  have H2 := Lib.hid (keep2 (al _ (.cells #[.int .i64 0, .int .i64 0, .int .i64 0, .int .i64 0, .int .i64 0] 24)) H0.out)
  clear H0
  go_enter Try.func12, Try.ntmps12
  have xz0 := H1.out.c 0 rfl
  have xz1 := H1.out.c 1 rfl
  have xz2 := H1.out.c 2 rfl
  have xz3 := H1.out.c 3 rfl
  have xz4 := H1.out.c 4 rfl
  have zz := H1.out.2.2
  go_wp2_with fail
  refine (rdig_any key _).mono ?_
  rintro e wq3 ⟨rfl, rfl⟩
  rw [HK0.out]
  clear xz0 xz1 xz2 xz3 xz4 zz
  obtain ⟨U1, hU1⟩ : ∃ z9, (w.alloc (.cells #[.int .i64 0, .int .i64 0, .int .i64 0, .int .i64 0, .int .i64 0] 24)) = z9 := ⟨_, rfl⟩
  rw [hU1] at H1 H2 ⊢
  clear hU1
  have xz0 := H1.out.c 0 rfl
  have xz1 := H1.out.c 1 rfl
  have xz2 := H1.out.c 2 rfl
  have xz3 := H1.out.c 3 rfl
  have xz4 := H1.out.c 4 rfl
  have zz := H1.out.2.2
  have fz0 := H1.out.f 0 (by simp)
  have fz1 := H1.out.f 1 (by simp)
  have fz2 := H1.out.f 2 (by simp)
  have fz3 := H1.out.f 3 (by simp)
  have fz4 := H1.out.f 4 (by simp)
  have HLE := Lib.hid (show w.heap.size ≤ (w.heap.size) from by omega)
  have q90 := Lib.hid (Cs.set H1.out 0 (by simp) (.int .i64 0) (vs' := #[.int .i64 0, .int .i64 0, .int .i64 0, .int .i64 0, .int .i64 0]) rfl)
  have q91 := Lib.hid (Cs.set q90.out 1 (by simp) (.int .i64 0) (vs' := #[.int .i64 0, .int .i64 0, .int .i64 0, .int .i64 0, .int .i64 0]) rfl)
  have q92 := Lib.hid (Cs.set q91.out 2 (by simp) (.int .i64 0) (vs' := #[.int .i64 0, .int .i64 0, .int .i64 0, .int .i64 0, .int .i64 0]) rfl)
  have q93 := Lib.hid (Cs.set q92.out 3 (by simp) (.int .i64 0) (vs' := #[.int .i64 0, .int .i64 0, .int .i64 0, .int .i64 0, .int .i64 0]) rfl)
  have q94 := Lib.hid (Cs.set q93.out 4 (by simp) (.int .i64 0) (vs' := #[.int .i64 0, .int .i64 0, .int .i64 0, .int .i64 0, .int .i64 0]) rfl)
  clear q90 q91 q92 q93
  go_wp2
  have hC := q94.out
  have hB := (((((H2.out.setCell (p := ⟨(w.heap.size), 0, none⟩) HLE.out (.int .i64 0)).setCell (p := ⟨(w.heap.size), 1, none⟩) HLE.out (.int .i64 0)).setCell (p := ⟨(w.heap.size), 2, none⟩) HLE.out (.int .i64 0)).setCell (p := ⟨(w.heap.size), 3, none⟩) HLE.out (.int .i64 0)).setCell (p := ⟨(w.heap.size), 4, none⟩) HLE.out (.int .i64 0))
  obtain ⟨V9, hV9⟩ : ∃ z9, (((((U1.setCell ⟨(w.heap.size), 0, none⟩ (.int .i64 0)).setCell ⟨(w.heap.size), 1, none⟩ (.int .i64 0)).setCell ⟨(w.heap.size), 2, none⟩ (.int .i64 0)).setCell ⟨(w.heap.size), 3, none⟩ (.int .i64 0)).setCell ⟨(w.heap.size), 4, none⟩ (.int .i64 0)) = z9 := ⟨_, rfl⟩
  rw [hV9] at hC hB ⊢
  clear hV9
  have k0 : V9.cell? ⟨(w.heap.size), 0, none⟩ = some (.int .i64 0) := hC.c 0 rfl
  have k1 : V9.cell? ⟨(w.heap.size), 1, none⟩ = some (.int .i64 0) := hC.c 1 rfl
  have k2 : V9.cell? ⟨(w.heap.size), 2, none⟩ = some (.int .i64 0) := hC.c 2 rfl
  have k3 : V9.cell? ⟨(w.heap.size), 3, none⟩ = some (.int .i64 0) := hC.c 3 rfl
  have k4 : V9.cell? ⟨(w.heap.size), 4, none⟩ = some (.int .i64 0) := hC.c 4 rfl
  exact bodyPost_ret (v := .tuple #[.agg #[.int .i64 0, .int .i64 0, .int .i64 0, .int .i64 0, .int .i64 0], .slice none 0 0, .int .i64 1]) (by simp [results, Try.results12, go_sem, k0, k1, k2, k3, k4]) rfl (⟨_, rfl, pci_nil _, hB⟩)
set_option maxRecDepth 100000 in
set_option maxHeartbeats 8000000 in
theorem rsplit_v (key ver : Int) (v : Value) (D : List Int) (w : World) (h : IntsAt w (v) D) (hn9 : D.length ≤ 5000) (s : Int) (hk0 : inB 0 2147483646 key = true) (hk1 : inB 1 1000000 ver = false) : Calls Try.prog 12 #[.int .i64 key, .int .i64 ver, .int .i64 s, v] w (ChI zMf [] 1 w) := by
  have HK0 := Lib.hid hk0
  have HK1 := Lib.hid hk1
  clear hk0 hk1
  have HD := Lib.hid h
  obtain ⟨va, vc, rfl, -, -⟩ := h
  have H9 := Lib.hid hn9
  have H0 := Lib.hid (Below.refl w.heap.size w)
  have H1 := Lib.hid (Cs.newB H0.out (w.heap.size) #[.int .i64 0, .int .i64 0, .int .i64 0, .int .i64 0, .int .i64 0] 24 (by simp))
  have H2 := Lib.hid (keep2 (al _ (.cells #[.int .i64 0, .int .i64 0, .int .i64 0, .int .i64 0, .int .i64 0] 24)) H0.out)
  clear H0
  go_enter Try.func12, Try.ntmps12
  have xz0 := H1.out.c 0 rfl
  have xz1 := H1.out.c 1 rfl
  have xz2 := H1.out.c 2 rfl
  have xz3 := H1.out.c 3 rfl
  have xz4 := H1.out.c 4 rfl
  have zz := H1.out.2.2
  go_wp2_with fail
  refine (rdig_any key _).mono ?_
  rintro e wq3 ⟨rfl, rfl⟩
  rw [HK0.out]
  go_wp2_with fail
  refine (rbtw_any ver 1 1000000 _).mono ?_
  rintro e wq4 ⟨rfl, rfl⟩
  rw [HK1.out]
  clear xz0 xz1 xz2 xz3 xz4 zz
  obtain ⟨U1, hU1⟩ : ∃ z9, (w.alloc (.cells #[.int .i64 0, .int .i64 0, .int .i64 0, .int .i64 0, .int .i64 0] 24)) = z9 := ⟨_, rfl⟩
  rw [hU1] at H1 H2 ⊢
  clear hU1
  have xz0 := H1.out.c 0 rfl
  have xz1 := H1.out.c 1 rfl
  have xz2 := H1.out.c 2 rfl
  have xz3 := H1.out.c 3 rfl
  have xz4 := H1.out.c 4 rfl
  have zz := H1.out.2.2
  have fz0 := H1.out.f 0 (by simp)
  have fz1 := H1.out.f 1 (by simp)
  have fz2 := H1.out.f 2 (by simp)
  have fz3 := H1.out.f 3 (by simp)
  have fz4 := H1.out.f 4 (by simp)
  have HLE := Lib.hid (show w.heap.size ≤ (w.heap.size) from by omega)
  have q90 := Lib.hid (Cs.set H1.out 0 (by simp) (.int .i64 0) (vs' := #[.int .i64 0, .int .i64 0, .int .i64 0, .int .i64 0, .int .i64 0]) rfl)
  have q91 := Lib.hid (Cs.set q90.out 1 (by simp) (.int .i64 0) (vs' := #[.int .i64 0, .int .i64 0, .int .i64 0, .int .i64 0, .int .i64 0]) rfl)
  have q92 := Lib.hid (Cs.set q91.out 2 (by simp) (.int .i64 0) (vs' := #[.int .i64 0, .int .i64 0, .int .i64 0, .int .i64 0, .int .i64 0]) rfl)
  have q93 := Lib.hid (Cs.set q92.out 3 (by simp) (.int .i64 0) (vs' := #[.int .i64 0, .int .i64 0, .int .i64 0, .int .i64 0, .int .i64 0]) rfl)
  have q94 := Lib.hid (Cs.set q93.out 4 (by simp) (.int .i64 0) (vs' := #[.int .i64 0, .int .i64 0, .int .i64 0, .int .i64 0, .int .i64 0]) rfl)
  clear q90 q91 q92 q93
  go_wp2
  have hC := q94.out
  have hB := (((((H2.out.setCell (p := ⟨(w.heap.size), 0, none⟩) HLE.out (.int .i64 0)).setCell (p := ⟨(w.heap.size), 1, none⟩) HLE.out (.int .i64 0)).setCell (p := ⟨(w.heap.size), 2, none⟩) HLE.out (.int .i64 0)).setCell (p := ⟨(w.heap.size), 3, none⟩) HLE.out (.int .i64 0)).setCell (p := ⟨(w.heap.size), 4, none⟩) HLE.out (.int .i64 0))
  obtain ⟨V9, hV9⟩ : ∃ z9, (((((U1.setCell ⟨(w.heap.size), 0, none⟩ (.int .i64 0)).setCell ⟨(w.heap.size), 1, none⟩ (.int .i64 0)).setCell ⟨(w.heap.size), 2, none⟩ (.int .i64 0)).setCell ⟨(w.heap.size), 3, none⟩ (.int .i64 0)).setCell ⟨(w.heap.size), 4, none⟩ (.int .i64 0)) = z9 := ⟨_, rfl⟩
  rw [hV9] at hC hB ⊢
  clear hV9
  have k0 : V9.cell? ⟨(w.heap.size), 0, none⟩ = some (.int .i64 0) := hC.c 0 rfl
  have k1 : V9.cell? ⟨(w.heap.size), 1, none⟩ = some (.int .i64 0) := hC.c 1 rfl
  have k2 : V9.cell? ⟨(w.heap.size), 2, none⟩ = some (.int .i64 0) := hC.c 2 rfl
  have k3 : V9.cell? ⟨(w.heap.size), 3, none⟩ = some (.int .i64 0) := hC.c 3 rfl
  have k4 : V9.cell? ⟨(w.heap.size), 4, none⟩ = some (.int .i64 0) := hC.c 4 rfl
  exact bodyPost_ret (v := .tuple #[.agg #[.int .i64 0, .int .i64 0, .int .i64 0, .int .i64 0, .int .i64 0], .slice none 0 0, .int .i64 1]) (by simp [results, Try.results12, go_sem, k0, k1, k2, k3, k4]) rfl (⟨_, rfl, pci_nil _, hB⟩)
set_option maxRecDepth 100000 in
set_option maxHeartbeats 8000000 in
theorem rsplit_s (key ver : Int) (v : Value) (D : List Int) (w : World) (h : IntsAt w (v) D) (hn9 : D.length ≤ 5000) (s : Int) (hk0 : inB 0 2147483646 key = true) (hk1 : inB 1 1000000 ver = true) (hk2 : inB 1 32 s = false) : Calls Try.prog 12 #[.int .i64 key, .int .i64 ver, .int .i64 s, v] w (ChI zMf [] 1 w) := by
  have HK0 := Lib.hid hk0
  have HK1 := Lib.hid hk1
  have HK2 := Lib.hid hk2
  clear hk0 hk1 hk2
  have HD := Lib.hid h
  obtain ⟨va, vc, rfl, -, -⟩ := h
  have H9 := Lib.hid hn9
  have H0 := Lib.hid (Below.refl w.heap.size w)
  have H1 := Lib.hid (Cs.newB H0.out (w.heap.size) #[.int .i64 0, .int .i64 0, .int .i64 0, .int .i64 0, .int .i64 0] 24 (by simp))
  have H2 := Lib.hid (keep2 (al _ (.cells #[.int .i64 0, .int .i64 0, .int .i64 0, .int .i64 0, .int .i64 0] 24)) H0.out)
  clear H0
  go_enter Try.func12, Try.ntmps12
  have xz0 := H1.out.c 0 rfl
  have xz1 := H1.out.c 1 rfl
  have xz2 := H1.out.c 2 rfl
  have xz3 := H1.out.c 3 rfl
  have xz4 := H1.out.c 4 rfl
  have zz := H1.out.2.2
  go_wp2_with fail
  refine (rdig_any key _).mono ?_
  rintro e wq3 ⟨rfl, rfl⟩
  rw [HK0.out]
  go_wp2_with fail
  refine (rbtw_any ver 1 1000000 _).mono ?_
  rintro e wq4 ⟨rfl, rfl⟩
  rw [HK1.out]
  go_wp2_with fail
  refine (rbtw_any s 1 32 _).mono ?_
  rintro e wq5 ⟨rfl, rfl⟩
  rw [HK2.out]
  clear xz0 xz1 xz2 xz3 xz4 zz
  obtain ⟨U1, hU1⟩ : ∃ z9, (w.alloc (.cells #[.int .i64 0, .int .i64 0, .int .i64 0, .int .i64 0, .int .i64 0] 24)) = z9 := ⟨_, rfl⟩
  rw [hU1] at H1 H2 ⊢
  clear hU1
  have xz0 := H1.out.c 0 rfl
  have xz1 := H1.out.c 1 rfl
  have xz2 := H1.out.c 2 rfl
  have xz3 := H1.out.c 3 rfl
  have xz4 := H1.out.c 4 rfl
  have zz := H1.out.2.2
  have fz0 := H1.out.f 0 (by simp)
  have fz1 := H1.out.f 1 (by simp)
  have fz2 := H1.out.f 2 (by simp)
  have fz3 := H1.out.f 3 (by simp)
  have fz4 := H1.out.f 4 (by simp)
  have HLE := Lib.hid (show w.heap.size ≤ (w.heap.size) from by omega)
  have q90 := Lib.hid (Cs.set H1.out 0 (by simp) (.int .i64 0) (vs' := #[.int .i64 0, .int .i64 0, .int .i64 0, .int .i64 0, .int .i64 0]) rfl)
  have q91 := Lib.hid (Cs.set q90.out 1 (by simp) (.int .i64 0) (vs' := #[.int .i64 0, .int .i64 0, .int .i64 0, .int .i64 0, .int .i64 0]) rfl)
  have q92 := Lib.hid (Cs.set q91.out 2 (by simp) (.int .i64 0) (vs' := #[.int .i64 0, .int .i64 0, .int .i64 0, .int .i64 0, .int .i64 0]) rfl)
  have q93 := Lib.hid (Cs.set q92.out 3 (by simp) (.int .i64 0) (vs' := #[.int .i64 0, .int .i64 0, .int .i64 0, .int .i64 0, .int .i64 0]) rfl)
  have q94 := Lib.hid (Cs.set q93.out 4 (by simp) (.int .i64 0) (vs' := #[.int .i64 0, .int .i64 0, .int .i64 0, .int .i64 0, .int .i64 0]) rfl)
  clear q90 q91 q92 q93
  go_wp2
  have hC := q94.out
  have hB := (((((H2.out.setCell (p := ⟨(w.heap.size), 0, none⟩) HLE.out (.int .i64 0)).setCell (p := ⟨(w.heap.size), 1, none⟩) HLE.out (.int .i64 0)).setCell (p := ⟨(w.heap.size), 2, none⟩) HLE.out (.int .i64 0)).setCell (p := ⟨(w.heap.size), 3, none⟩) HLE.out (.int .i64 0)).setCell (p := ⟨(w.heap.size), 4, none⟩) HLE.out (.int .i64 0))
  obtain ⟨V9, hV9⟩ : ∃ z9, (((((U1.setCell ⟨(w.heap.size), 0, none⟩ (.int .i64 0)).setCell ⟨(w.heap.size), 1, none⟩ (.int .i64 0)).setCell ⟨(w.heap.size), 2, none⟩ (.int .i64 0)).setCell ⟨(w.heap.size), 3, none⟩ (.int .i64 0)).setCell ⟨(w.heap.size), 4, none⟩ (.int .i64 0)) = z9 := ⟨_, rfl⟩
  rw [hV9] at hC hB ⊢
  clear hV9
  have k0 : V9.cell? ⟨(w.heap.size), 0, none⟩ = some (.int .i64 0) := hC.c 0 rfl
  have k1 : V9.cell? ⟨(w.heap.size), 1, none⟩ = some (.int .i64 0) := hC.c 1 rfl
  have k2 : V9.cell? ⟨(w.heap.size), 2, none⟩ = some (.int .i64 0) := hC.c 2 rfl
  have k3 : V9.cell? ⟨(w.heap.size), 3, none⟩ = some (.int .i64 0) := hC.c 3 rfl
  have k4 : V9.cell? ⟨(w.heap.size), 4, none⟩ = some (.int .i64 0) := hC.c 4 rfl
  exact bodyPost_ret (v := .tuple #[.agg #[.int .i64 0, .int .i64 0, .int .i64 0, .int .i64 0, .int .i64 0], .slice none 0 0, .int .i64 1]) (by simp [results, Try.results12, go_sem, k0, k1, k2, k3, k4]) rfl (⟨_, rfl, pci_nil _, hB⟩)
set_option maxRecDepth 100000 in
set_option maxHeartbeats 8000000 in
theorem rsplit_z (key ver : Int) (va : Option Addr) (vc : Nat) (w : World) (h : IntsAt w (.slice va 0 vc) []) (s : Nat) (hk0 : inB 0 2147483646 key = true) (hk1 : inB 1 1000000 ver = true) (hk2 : inB 1 32 (s : Int) = true)  : Calls Try.prog 12 #[.int .i64 key, .int .i64 ver, .int .i64 (s : Int), .slice va 0 vc] w (ChI zMf [] 1 w) := by
  have HK0 := Lib.hid hk0
  have HK1 := Lib.hid hk1
  have HK2 := Lib.hid hk2
  have HSS := Lib.hid (inB_iff.1 hk2 |> fun q => show 1 ≤ s ∧ s ≤ 32 by omega)
  clear hk0 hk1 hk2
  have HD := Lib.hid h
  skip
  have H0 := Lib.hid (Below.refl w.heap.size w)
  have H1 := Lib.hid (Cs.newB H0.out (w.heap.size) #[.int .i64 0, .int .i64 0, .int .i64 0, .int .i64 0, .int .i64 0] 24 (by simp))
  have H2 := Lib.hid (keep2 (al _ (.cells #[.int .i64 0, .int .i64 0, .int .i64 0, .int .i64 0, .int .i64 0] 24)) H0.out)
  clear H0
  go_enter Try.func12, Try.ntmps12
  have xz0 := H1.out.c 0 rfl
  have xz1 := H1.out.c 1 rfl
  have xz2 := H1.out.c 2 rfl
  have xz3 := H1.out.c 3 rfl
  have xz4 := H1.out.c 4 rfl
  have zz := H1.out.2.2
  go_wp2_with fail
  refine (rdig_any key _).mono ?_
  rintro e wq3 ⟨rfl, rfl⟩
  rw [HK0.out]
  go_wp2_with fail
  refine (rbtw_any ver 1 1000000 _).mono ?_
  rintro e wq4 ⟨rfl, rfl⟩
  rw [HK1.out]
  go_wp2_with fail
  refine (rbtw_any (s : Int) 1 32 _).mono ?_
  rintro e wq5 ⟨rfl, rfl⟩
  rw [HK2.out]
  clear xz0 xz1 xz2 xz3 xz4 zz
  obtain ⟨U1, hU1⟩ : ∃ z9, (w.alloc (.cells #[.int .i64 0, .int .i64 0, .int .i64 0, .int .i64 0, .int .i64 0] 24)) = z9 := ⟨_, rfl⟩
  rw [hU1] at H1 H2 ⊢
  clear hU1
  have xz0 := H1.out.c 0 rfl
  have xz1 := H1.out.c 1 rfl
  have xz2 := H1.out.c 2 rfl
  have xz3 := H1.out.c 3 rfl
  have xz4 := H1.out.c 4 rfl
  have zz := H1.out.2.2
  have fz0 := H1.out.f 0 (by simp)
  have fz1 := H1.out.f 1 (by simp)
  have fz2 := H1.out.f 2 (by simp)
  have fz3 := H1.out.f 3 (by simp)
  have fz4 := H1.out.f 4 (by simp)
  have HLE := Lib.hid (show w.heap.size ≤ (w.heap.size) from by omega)
  have q90 := Lib.hid (Cs.set H1.out 0 (by simp) (.int .i64 0) (vs' := #[.int .i64 0, .int .i64 0, .int .i64 0, .int .i64 0, .int .i64 0]) rfl)
  have q91 := Lib.hid (Cs.set q90.out 1 (by simp) (.int .i64 0) (vs' := #[.int .i64 0, .int .i64 0, .int .i64 0, .int .i64 0, .int .i64 0]) rfl)
  have q92 := Lib.hid (Cs.set q91.out 2 (by simp) (.int .i64 0) (vs' := #[.int .i64 0, .int .i64 0, .int .i64 0, .int .i64 0, .int .i64 0]) rfl)
  have q93 := Lib.hid (Cs.set q92.out 3 (by simp) (.int .i64 0) (vs' := #[.int .i64 0, .int .i64 0, .int .i64 0, .int .i64 0, .int .i64 0]) rfl)
  have q94 := Lib.hid (Cs.set q93.out 4 (by simp) (.int .i64 0) (vs' := #[.int .i64 0, .int .i64 0, .int .i64 0, .int .i64 0, .int .i64 0]) rfl)
  clear q90 q91 q92 q93
  go_wp2
  have hC := q94.out
  have hB := (((((H2.out.setCell (p := ⟨(w.heap.size), 0, none⟩) HLE.out (.int .i64 0)).setCell (p := ⟨(w.heap.size), 1, none⟩) HLE.out (.int .i64 0)).setCell (p := ⟨(w.heap.size), 2, none⟩) HLE.out (.int .i64 0)).setCell (p := ⟨(w.heap.size), 3, none⟩) HLE.out (.int .i64 0)).setCell (p := ⟨(w.heap.size), 4, none⟩) HLE.out (.int .i64 0))
  obtain ⟨V9, hV9⟩ : ∃ z9, (((((U1.setCell ⟨(w.heap.size), 0, none⟩ (.int .i64 0)).setCell ⟨(w.heap.size), 1, none⟩ (.int .i64 0)).setCell ⟨(w.heap.size), 2, none⟩ (.int .i64 0)).setCell ⟨(w.heap.size), 3, none⟩ (.int .i64 0)).setCell ⟨(w.heap.size), 4, none⟩ (.int .i64 0)) = z9 := ⟨_, rfl⟩
  rw [hV9] at hC hB ⊢
  clear hV9
  have k0 : V9.cell? ⟨(w.heap.size), 0, none⟩ = some (.int .i64 0) := hC.c 0 rfl
  have k1 : V9.cell? ⟨(w.heap.size), 1, none⟩ = some (.int .i64 0) := hC.c 1 rfl
  have k2 : V9.cell? ⟨(w.heap.size), 2, none⟩ = some (.int .i64 0) := hC.c 2 rfl
  have k3 : V9.cell? ⟨(w.heap.size), 3, none⟩ = some (.int .i64 0) := hC.c 3 rfl
  have k4 : V9.cell? ⟨(w.heap.size), 4, none⟩ = some (.int .i64 0) := hC.c 4 rfl
  exact bodyPost_ret (v := .tuple #[.agg #[.int .i64 0, .int .i64 0, .int .i64 0, .int .i64 0, .int .i64 0], .slice none 0 0, .int .i64 1]) (by simp [results, Try.results12, go_sem, k0, k1, k2, k3, k4]) rfl (⟨_, rfl, pci_nil _, hB⟩)
set_option maxRecDepth 100000 in
set_option maxHeartbeats 8000000 in
theorem rsplit_d (key ver : Int) (v : Value) (D : List Int) (w : World) (h : IntsAt w (v) D) (hn9 : D.length ≤ 5000) (s : Nat) (hk0 : inB 0 2147483646 key = true) (hk1 : inB 1 1000000 ver = true) (hk2 : inB 1 32 (s : Int) = true) (hn1 : 0 < D.length) (hk3 : daB D = false) : Calls Try.prog 12 #[.int .i64 key, .int .i64 ver, .int .i64 (s : Int), v] w (ChI zMf [] 1 w) := by
  have HK0 := Lib.hid hk0
  have HK1 := Lib.hid hk1
  have HK2 := Lib.hid hk2
  have HK3 := Lib.hid hk3
  have HSS := Lib.hid (inB_iff.1 hk2 |> fun q => show 1 ≤ s ∧ s ≤ 32 by omega)
  have HN1 := Lib.hid hn1
  clear hk0 hk1 hk2 hk3 hn1
  have HD := Lib.hid h
  obtain ⟨va, vc, rfl, -, -⟩ := h
  have H9 := Lib.hid hn9
  have H0 := Lib.hid (Below.refl w.heap.size w)
  have H1 := Lib.hid (Cs.newB H0.out (w.heap.size) #[.int .i64 0, .int .i64 0, .int .i64 0, .int .i64 0, .int .i64 0] 24 (by simp))
  have H2 := Lib.hid (keep2 (al _ (.cells #[.int .i64 0, .int .i64 0, .int .i64 0, .int .i64 0, .int .i64 0] 24)) H0.out)
  clear H0
  go_enter Try.func12, Try.ntmps12
  have xz0 := H1.out.c 0 rfl
  have xz1 := H1.out.c 1 rfl
  have xz2 := H1.out.c 2 rfl
  have xz3 := H1.out.c 3 rfl
  have xz4 := H1.out.c 4 rfl
  have zz := H1.out.2.2
  go_wp2_with fail
  refine (rdig_any key _).mono ?_
  rintro e wq3 ⟨rfl, rfl⟩
  rw [HK0.out]
  go_wp2_with fail
  refine (rbtw_any ver 1 1000000 _).mono ?_
  rintro e wq4 ⟨rfl, rfl⟩
  rw [HK1.out]
  go_wp2_with fail
  refine (rbtw_any (s : Int) 1 32 _).mono ?_
  rintro e wq5 ⟨rfl, rfl⟩
  rw [HK2.out]
  have t1 : ((D.length : Int) == 0) = false := by have := HN1.out; simp; intro e; rw [e] at this; simp at this
  have t2 : ¬ D = [] := by have := HN1.out; intro e; rw [e] at this; simp at this
  have t3 : ¬ (D.length : Int) = 0 := by have := HN1.out; omega
  go_wp2_with fail
  refine (rdata_any _ D _ (HD.out.step H2.out)).mono ?_
  rintro e wq6 ⟨rfl, rfl⟩
  rw [HK3.out]
  clear t1 t2 t3
  clear xz0 xz1 xz2 xz3 xz4 zz
  obtain ⟨U1, hU1⟩ : ∃ z9, (w.alloc (.cells #[.int .i64 0, .int .i64 0, .int .i64 0, .int .i64 0, .int .i64 0] 24)) = z9 := ⟨_, rfl⟩
  rw [hU1] at H1 H2 ⊢
  clear hU1
  have xz0 := H1.out.c 0 rfl
  have xz1 := H1.out.c 1 rfl
  have xz2 := H1.out.c 2 rfl
  have xz3 := H1.out.c 3 rfl
  have xz4 := H1.out.c 4 rfl
  have zz := H1.out.2.2
  have fz0 := H1.out.f 0 (by simp)
  have fz1 := H1.out.f 1 (by simp)
  have fz2 := H1.out.f 2 (by simp)
  have fz3 := H1.out.f 3 (by simp)
  have fz4 := H1.out.f 4 (by simp)
  have HLE := Lib.hid (show w.heap.size ≤ (w.heap.size) from by omega)
  have q90 := Lib.hid (Cs.set H1.out 0 (by simp) (.int .i64 0) (vs' := #[.int .i64 0, .int .i64 0, .int .i64 0, .int .i64 0, .int .i64 0]) rfl)
  have q91 := Lib.hid (Cs.set q90.out 1 (by simp) (.int .i64 0) (vs' := #[.int .i64 0, .int .i64 0, .int .i64 0, .int .i64 0, .int .i64 0]) rfl)
  have q92 := Lib.hid (Cs.set q91.out 2 (by simp) (.int .i64 0) (vs' := #[.int .i64 0, .int .i64 0, .int .i64 0, .int .i64 0, .int .i64 0]) rfl)
  have q93 := Lib.hid (Cs.set q92.out 3 (by simp) (.int .i64 0) (vs' := #[.int .i64 0, .int .i64 0, .int .i64 0, .int .i64 0, .int .i64 0]) rfl)
  have q94 := Lib.hid (Cs.set q93.out 4 (by simp) (.int .i64 0) (vs' := #[.int .i64 0, .int .i64 0, .int .i64 0, .int .i64 0, .int .i64 0]) rfl)
  clear q90 q91 q92 q93
  go_wp2
  have hC := q94.out
  have hB := (((((H2.out.setCell (p := ⟨(w.heap.size), 0, none⟩) HLE.out (.int .i64 0)).setCell (p := ⟨(w.heap.size), 1, none⟩) HLE.out (.int .i64 0)).setCell (p := ⟨(w.heap.size), 2, none⟩) HLE.out (.int .i64 0)).setCell (p := ⟨(w.heap.size), 3, none⟩) HLE.out (.int .i64 0)).setCell (p := ⟨(w.heap.size), 4, none⟩) HLE.out (.int .i64 0))
  obtain ⟨V9, hV9⟩ : ∃ z9, (((((U1.setCell ⟨(w.heap.size), 0, none⟩ (.int .i64 0)).setCell ⟨(w.heap.size), 1, none⟩ (.int .i64 0)).setCell ⟨(w.heap.size), 2, none⟩ (.int .i64 0)).setCell ⟨(w.heap.size), 3, none⟩ (.int .i64 0)).setCell ⟨(w.heap.size), 4, none⟩ (.int .i64 0)) = z9 := ⟨_, rfl⟩
  rw [hV9] at hC hB ⊢
  clear hV9
  have k0 : V9.cell? ⟨(w.heap.size), 0, none⟩ = some (.int .i64 0) := hC.c 0 rfl
  have k1 : V9.cell? ⟨(w.heap.size), 1, none⟩ = some (.int .i64 0) := hC.c 1 rfl
  have k2 : V9.cell? ⟨(w.heap.size), 2, none⟩ = some (.int .i64 0) := hC.c 2 rfl
  have k3 : V9.cell? ⟨(w.heap.size), 3, none⟩ = some (.int .i64 0) := hC.c 3 rfl
  have k4 : V9.cell? ⟨(w.heap.size), 4, none⟩ = some (.int .i64 0) := hC.c 4 rfl
  exact bodyPost_ret (v := .tuple #[.agg #[.int .i64 0, .int .i64 0, .int .i64 0, .int .i64 0, .int .i64 0], .slice none 0 0, .int .i64 1]) (by simp [results, Try.results12, go_sem, k0, k1, k2, k3, k4]) rfl (⟨_, rfl, pci_nil _, hB⟩)
set_option maxRecDepth 100000 in
set_option maxHeartbeats 8000000 in
theorem rsplit_l (key ver : Int) (va : Option Addr) (vc0 : Nat) (D : List Int) (w : World) (h : IntsAt w (.slice va D.length vc0) D) (hn9 : D.length ≤ 5000) (s : Nat) (hk0 : inB 0 2147483646 key = true) (hk1 : inB 1 1000000 ver = true) (hk2 : inB 1 32 (s : Int) = true) (hn1 : 0 < D.length) (hk3 : daB D = true) (hcp : D.length ≤ vc0) (cn : Nat) (hcn : chN D.length s = cn) (hc : 64 < cn) : Calls Try.prog 12 #[.int .i64 key, .int .i64 ver, .int .i64 (s : Int), .slice va D.length vc0] w (ChI zMf [] 2 w) := by
  have HK0 := Lib.hid hk0
  have HK1 := Lib.hid hk1
  have HK2 := Lib.hid hk2
  have HK3 := Lib.hid hk3
  have HSS := Lib.hid (inB_iff.1 hk2 |> fun q => show 1 ≤ s ∧ s ≤ 32 by omega)
  have HN1 := Lib.hid hn1
  have HCP := Lib.hid hcp
  have HCN0 := Lib.hid hcn
  have HCC := Lib.hid hc
  clear hk0 hk1 hk2 hk3 hn1 hcp hcn hc
  have HD := Lib.hid h
  have H9 := Lib.hid hn9
  obtain ⟨vc, hvc⟩ : ∃ z9, vc0 = z9 := ⟨_, rfl⟩
  rw [hvc] at HD HCP ⊢
  clear h hvc hn9
  have H0 := Lib.hid (Below.refl w.heap.size w)
  have H1 := Lib.hid (Cs.newB H0.out (w.heap.size) #[.int .i64 0, .int .i64 0, .int .i64 0, .int .i64 0, .int .i64 0] 24 (by simp))
  have H2 := Lib.hid (keep2 (al _ (.cells #[.int .i64 0, .int .i64 0, .int .i64 0, .int .i64 0, .int .i64 0] 24)) H0.out)
  clear H0
  go_enter Try.func12, Try.ntmps12
  have xz0 := H1.out.c 0 rfl
  have xz1 := H1.out.c 1 rfl
  have xz2 := H1.out.c 2 rfl
  have xz3 := H1.out.c 3 rfl
  have xz4 := H1.out.c 4 rfl
  have zz := H1.out.2.2
  go_wp2_with fail
  refine (rdig_any key _).mono ?_
  rintro e wq3 ⟨rfl, rfl⟩
  rw [HK0.out]
  go_wp2_with fail
  refine (rbtw_any ver 1 1000000 _).mono ?_
  rintro e wq4 ⟨rfl, rfl⟩
  rw [HK1.out]
  go_wp2_with fail
  refine (rbtw_any (s : Int) 1 32 _).mono ?_
  rintro e wq5 ⟨rfl, rfl⟩
  rw [HK2.out]
  have t1 : ((D.length : Int) == 0) = false := by have := HN1.out; simp; intro e; rw [e] at this; simp at this
  have t2 : ¬ D = [] := by have := HN1.out; intro e; rw [e] at this; simp at this
  have t3 : ¬ (D.length : Int) = 0 := by have := HN1.out; omega
  go_wp2_with fail
  refine (rdata_any _ D _ (HD.out.step H2.out)).mono ?_
  rintro e wq6 ⟨rfl, rfl⟩
  rw [HK3.out]
  clear t1 t2 t3
  obtain ⟨b, off, rfl⟩ : ∃ b off, va = some ⟨b, off, none⟩ := by
    obtain ⟨a2, c2, e2, -, hx⟩ := HD.out
    obtain ⟨b, off, e3, -⟩ := hx (by intro e; have := HN1.out; rw [e] at this; simp at this)
    have : va = a2 := by simp at e2; exact e2.1
    exact ⟨b, off, this.trans e3⟩
  go_wp2_with fail
  clear xz0 xz1 xz2 xz3 xz4 zz
  obtain ⟨UA, hUA⟩ : ∃ z9, (w.alloc (.cells #[.int .i64 0, .int .i64 0, .int .i64 0, .int .i64 0, .int .i64 0] 24)) = z9 := ⟨_, rfl⟩
  rw [hUA] at H1 H2 ⊢
  clear hUA
  refine (rpieces_lo D b off vc s w _ HD.out HSS.out.1 HSS.out.2 H9.out HCP.out).mono ?_
  rintro e u1 ⟨u, rfl, hu, b1⟩
  have H7 := Lib.hid (H1.out.step b1)
  clear H1
  have H8 := Lib.hid (keep2 b1 H2.out)
  clear H2
  clear b1
  obtain ⟨LS, hLS⟩ : ∃ z9, chL s D = z9 := ⟨_, rfl⟩
  have HLS := Lib.hid hLS
  have HLL := Lib.hid (show LS.length = cn by rw [← hLS, chL_len, HCN0.out])
  rw [hLS] at hu
  clear hLS
  obtain ⟨ua, uc, rfl⟩ : ∃ a c, u = .slice a LS.length c := by
    obtain ⟨a, c, e, -⟩ := hu
    exact ⟨a, c, e⟩
  have HRL := Lib.hid hu
  clear hu
  have xz0 := H7.out.c 0 rfl
  have xz1 := H7.out.c 1 rfl
  have xz2 := H7.out.c 2 rfl
  have xz3 := H7.out.c 3 rfl
  have xz4 := H7.out.c 4 rfl
  have zz := H7.out.2.2
  have c1 : (64 : Int) < (LS.length : Int) := by rw [HLL.out]; have h2 := HCC.out; omega
  have c2 : decide ((64 : Int) < (LS.length : Int)) = true := decide_eq_true c1
  have c3 : 64 < LS.length := by omega
  clear HRL
  clear xz0 xz1 xz2 xz3 xz4 zz
  have xz0 := H7.out.c 0 rfl
  have xz1 := H7.out.c 1 rfl
  have xz2 := H7.out.c 2 rfl
  have xz3 := H7.out.c 3 rfl
  have xz4 := H7.out.c 4 rfl
  have zz := H7.out.2.2
  have fz0 := H7.out.f 0 (by simp)
  have fz1 := H7.out.f 1 (by simp)
  have fz2 := H7.out.f 2 (by simp)
  have fz3 := H7.out.f 3 (by simp)
  have fz4 := H7.out.f 4 (by simp)
  have HLE := Lib.hid (show w.heap.size ≤ (w.heap.size) from by omega)
  have q90 := Lib.hid (Cs.set H7.out 0 (by simp) (.int .i64 0) (vs' := #[.int .i64 0, .int .i64 0, .int .i64 0, .int .i64 0, .int .i64 0]) rfl)
  have q91 := Lib.hid (Cs.set q90.out 1 (by simp) (.int .i64 0) (vs' := #[.int .i64 0, .int .i64 0, .int .i64 0, .int .i64 0, .int .i64 0]) rfl)
  have q92 := Lib.hid (Cs.set q91.out 2 (by simp) (.int .i64 0) (vs' := #[.int .i64 0, .int .i64 0, .int .i64 0, .int .i64 0, .int .i64 0]) rfl)
  have q93 := Lib.hid (Cs.set q92.out 3 (by simp) (.int .i64 0) (vs' := #[.int .i64 0, .int .i64 0, .int .i64 0, .int .i64 0, .int .i64 0]) rfl)
  have q94 := Lib.hid (Cs.set q93.out 4 (by simp) (.int .i64 0) (vs' := #[.int .i64 0, .int .i64 0, .int .i64 0, .int .i64 0, .int .i64 0]) rfl)
  clear q90 q91 q92 q93
  go_wp2
  have hC := q94.out
  have hB := (((((H8.out.setCell (p := ⟨(w.heap.size), 0, none⟩) HLE.out (.int .i64 0)).setCell (p := ⟨(w.heap.size), 1, none⟩) HLE.out (.int .i64 0)).setCell (p := ⟨(w.heap.size), 2, none⟩) HLE.out (.int .i64 0)).setCell (p := ⟨(w.heap.size), 3, none⟩) HLE.out (.int .i64 0)).setCell (p := ⟨(w.heap.size), 4, none⟩) HLE.out (.int .i64 0))
  obtain ⟨V9, hV9⟩ : ∃ z9, (((((u1.setCell ⟨(w.heap.size), 0, none⟩ (.int .i64 0)).setCell ⟨(w.heap.size), 1, none⟩ (.int .i64 0)).setCell ⟨(w.heap.size), 2, none⟩ (.int .i64 0)).setCell ⟨(w.heap.size), 3, none⟩ (.int .i64 0)).setCell ⟨(w.heap.size), 4, none⟩ (.int .i64 0)) = z9 := ⟨_, rfl⟩
  rw [hV9] at hC hB ⊢
  clear hV9
  have k0 : V9.cell? ⟨(w.heap.size), 0, none⟩ = some (.int .i64 0) := hC.c 0 rfl
  have k1 : V9.cell? ⟨(w.heap.size), 1, none⟩ = some (.int .i64 0) := hC.c 1 rfl
  have k2 : V9.cell? ⟨(w.heap.size), 2, none⟩ = some (.int .i64 0) := hC.c 2 rfl
  have k3 : V9.cell? ⟨(w.heap.size), 3, none⟩ = some (.int .i64 0) := hC.c 3 rfl
  have k4 : V9.cell? ⟨(w.heap.size), 4, none⟩ = some (.int .i64 0) := hC.c 4 rfl
  exact bodyPost_ret (v := .tuple #[.agg #[.int .i64 0, .int .i64 0, .int .i64 0, .int .i64 0, .int .i64 0], .slice none 0 0, .int .i64 2]) (by simp [results, Try.results12, go_sem, k0, k1, k2, k3, k4]) rfl (⟨_, rfl, pci_nil _, hB⟩)
set_option maxRecDepth 100000 in
set_option maxHeartbeats 8000000 in
theorem rsplit_ok (key ver : Int) (va : Option Addr) (vc0 : Nat) (D : List Int) (w : World) (h : IntsAt w (.slice va D.length vc0) D) (hn9 : D.length ≤ 5000) (s : Nat) (hk0 : inB 0 2147483646 key = true) (hk1 : inB 1 1000000 ver = true) (hk2 : inB 1 32 (s : Int) = true) (hn1 : 0 < D.length) (hk3 : daB D = true) (hcp : D.length ≤ vc0) (cn : Nat) (hcn : chN D.length s = cn) (hc : ¬ 64 < cn) (rt tg : Int) (hrt : rtL (chL s D) = rt) (htg : tgM key ⟨ver, cn, s, rt, 0⟩ = tg) : Calls Try.prog 12 #[.int .i64 key, .int .i64 ver, .int .i64 (s : Int), .slice va D.length vc0] w (ChI ⟨ver, cn, s, rt, tg⟩ (spP s D cn) 0 w) := by
  have HK0 := Lib.hid hk0
  have HK1 := Lib.hid hk1
  have HK2 := Lib.hid hk2
  have HK3 := Lib.hid hk3
  have HSS := Lib.hid (inB_iff.1 hk2 |> fun q => show 1 ≤ s ∧ s ≤ 32 by omega)
  have HN1 := Lib.hid hn1
  have HCP := Lib.hid hcp
  have HCN0 := Lib.hid hcn
  have HCC := Lib.hid hc
  have HRT := Lib.hid hrt
  have HTG := Lib.hid (show Dg (tgd key (Mf.nums ⟨ver, cn, s, rt, 0⟩)) = tg from htg)
  clear hk0 hk1 hk2 hk3 hn1 hcp hcn hc hrt htg
  have HD := Lib.hid h
  have H9 := Lib.hid hn9
  obtain ⟨vc, hvc⟩ : ∃ z9, vc0 = z9 := ⟨_, rfl⟩
  rw [hvc] at HD HCP ⊢
  clear h hvc hn9
  have H0 := Lib.hid (Below.refl w.heap.size w)
  have H1 := Lib.hid (Cs.newB H0.out (w.heap.size) #[.int .i64 0, .int .i64 0, .int .i64 0, .int .i64 0, .int .i64 0] 24 (by simp))
  have H2 := Lib.hid (keep2 (al _ (.cells #[.int .i64 0, .int .i64 0, .int .i64 0, .int .i64 0, .int .i64 0] 24)) H0.out)
  clear H0
  go_enter Try.func12, Try.ntmps12
  have xz0 := H1.out.c 0 rfl
  have xz1 := H1.out.c 1 rfl
  have xz2 := H1.out.c 2 rfl
  have xz3 := H1.out.c 3 rfl
  have xz4 := H1.out.c 4 rfl
  have zz := H1.out.2.2
  go_wp2_with fail
  refine (rdig_any key _).mono ?_
  rintro e wq3 ⟨rfl, rfl⟩
  rw [HK0.out]
  go_wp2_with fail
  refine (rbtw_any ver 1 1000000 _).mono ?_
  rintro e wq4 ⟨rfl, rfl⟩
  rw [HK1.out]
  go_wp2_with fail
  refine (rbtw_any (s : Int) 1 32 _).mono ?_
  rintro e wq5 ⟨rfl, rfl⟩
  rw [HK2.out]
  have t1 : ((D.length : Int) == 0) = false := by have := HN1.out; simp; intro e; rw [e] at this; simp at this
  have t2 : ¬ D = [] := by have := HN1.out; intro e; rw [e] at this; simp at this
  have t3 : ¬ (D.length : Int) = 0 := by have := HN1.out; omega
  go_wp2_with fail
  refine (rdata_any _ D _ (HD.out.step H2.out)).mono ?_
  rintro e wq6 ⟨rfl, rfl⟩
  rw [HK3.out]
  clear t1 t2 t3
  obtain ⟨b, off, rfl⟩ : ∃ b off, va = some ⟨b, off, none⟩ := by
    obtain ⟨a2, c2, e2, -, hx⟩ := HD.out
    obtain ⟨b, off, e3, -⟩ := hx (by intro e; have := HN1.out; rw [e] at this; simp at this)
    have : va = a2 := by simp at e2; exact e2.1
    exact ⟨b, off, this.trans e3⟩
  go_wp2_with fail
  clear xz0 xz1 xz2 xz3 xz4 zz
  obtain ⟨UA, hUA⟩ : ∃ z9, (w.alloc (.cells #[.int .i64 0, .int .i64 0, .int .i64 0, .int .i64 0, .int .i64 0] 24)) = z9 := ⟨_, rfl⟩
  rw [hUA] at H1 H2 ⊢
  clear hUA
  refine (rpieces_lo D b off vc s w _ HD.out HSS.out.1 HSS.out.2 H9.out HCP.out).mono ?_
  rintro e u1 ⟨u, rfl, hu, b1⟩
  have H7 := Lib.hid (H1.out.step b1)
  clear H1
  have H8 := Lib.hid (keep2 b1 H2.out)
  clear H2
  clear b1
  obtain ⟨LS, hLS⟩ : ∃ z9, chL s D = z9 := ⟨_, rfl⟩
  have HLS := Lib.hid hLS
  have HLL := Lib.hid (show LS.length = cn by rw [← hLS, chL_len, HCN0.out])
  rw [hLS] at hu
  clear hLS
  obtain ⟨ua, uc, rfl⟩ : ∃ a c, u = .slice a LS.length c := by
    obtain ⟨a, c, e, -⟩ := hu
    exact ⟨a, c, e⟩
  have HRL := Lib.hid hu
  clear hu
  have xz0 := H7.out.c 0 rfl
  have xz1 := H7.out.c 1 rfl
  have xz2 := H7.out.c 2 rfl
  have xz3 := H7.out.c 3 rfl
  have xz4 := H7.out.c 4 rfl
  have zz := H7.out.2.2
  have c1 : ¬ (64 : Int) < (LS.length : Int) := by rw [HLL.out]; have h2 := HCC.out; omega
  have c2 : decide ((64 : Int) < (LS.length : Int)) = false := decide_eq_false c1
  have c3 : ¬ 64 < LS.length := by omega
  go_wp2_with fail
  refine (rroot_any _ LS _ (HRL.out.rows H8.out)).mono ?_
  rintro e u2 ⟨rfl, b2⟩
  clear xz0 xz1 xz2 xz3 xz4 zz
  have H9 := Lib.hid (H7.out.step b2)
  clear H7
  have H10 := Lib.hid (HRL.out.step b2)
  clear HRL
  have H11 := Lib.hid (keep2 b2 H8.out)
  clear H8
  clear b2
  rw [show rtL LS = rt by rw [← HLS.out]; exact HRT.out]
  clear c1 c2 c3
  have HA := Lib.hid (al u2 (.cells #[.int .i64 ver, .int .i64 (LS.length : Int), .int .i64 (s : Int), .int .i64 rt, .int .i64 0] 24))
  have HM := Lib.hid (Cs.new u2 u2.heap.size #[.int .i64 ver, .int .i64 (LS.length : Int), .int .i64 (s : Int), .int .i64 rt, .int .i64 0] 24 rfl)
  go_upto_region 7 with fail
  obtain ⟨U5, hU5⟩ : ∃ z9, u2.alloc (.cells #[.int .i64 ver, .int .i64 (LS.length : Int), .int .i64 (s : Int), .int .i64 rt, .int .i64 0] 24) = z9 := ⟨_, rfl⟩
  rw [hU5] at HA HM ⊢
  clear hU5
  have xm0 := HM.out.c 0 rfl
  have xm1 := HM.out.c 1 rfl
  have xm2 := HM.out.c 2 rfl
  have xm3 := HM.out.c 3 rfl
  have xm4 := HM.out.c 4 rfl
  have xmz := HM.out.2.2
  go_wp2_with fail
  refine (rnums_any ⟨ver, (LS.length : Int), (s : Int), rt, 0⟩ _).mono ?_
  rintro e w5 ⟨nv, rfl, hnv, b5⟩
  have HNV := Lib.hid hnv
  have HM5 := Lib.hid (HM.out.step b5)
  have HA5 := Lib.hid (HA.out.trans (b5.mono HA.out.size))
  clear hnv b5 HM HA
  clear xmz xm0 xm1 xm2 xm3 xm4
  have xm0 := HM5.out.c 0 rfl
  have xm1 := HM5.out.c 1 rfl
  have xm2 := HM5.out.c 2 rfl
  have xm3 := HM5.out.c 3 rfl
  have xm4 := HM5.out.c 4 rfl
  have xmz := HM5.out.2.2
  go_wp2_with fail
  refine (rtagA_any key _ _ _ HNV.out (by simp [Mf.nums])).mono ?_
  rintro e w6 ⟨rfl, b6⟩
  have HTL := Lib.hid (show Dg (tgd key (Mf.nums ⟨ver, (LS.length : Int), (s : Int), rt, 0⟩)) = tg by rw [HLL.out]; exact HTG.out)
  rw [HTL.out]
  clear HTL
  have HM6 := Lib.hid (HM5.out.step b6)
  have HA6 := Lib.hid (HA5.out.trans (b6.mono HA5.out.size))
  clear b6 HM5 HA5 HNV
  clear xmz xm0 xm1 xm2 xm3 xm4
  have xm0 := HM6.out.c 0 rfl
  have xm1 := HM6.out.c 1 rfl
  have xm2 := HM6.out.c 2 rfl
  have xm3 := HM6.out.c 3 rfl
  have xm4 := HM6.out.c 4 rfl
  have xmz := HM6.out.2.2
  have fm4 := HM6.out.f 4 (by simp)
  go_upto_region 8 with fail
  have HM7 := Lib.hid (Cs.set HM6.out 4 (by simp) (.int .i64 tg) (vs' := #[.int .i64 ver, .int .i64 (LS.length : Int), .int .i64 (s : Int), .int .i64 rt, .int .i64 tg]) rfl)
  have HA7 := Lib.hid (HA6.out.setCell (p := ⟨u2.heap.size, 4, none⟩) (Nat.le_refl _) (.int .i64 tg))
  clear HM6 HA6 fm4
  clear xmz xm0 xm1 xm2 xm3 xm4
  obtain ⟨U7, hU7⟩ : ∃ z9, w6.setCell ⟨u2.heap.size, 4, none⟩ (.int .i64 tg) = z9 := ⟨_, rfl⟩
  rw [hU7] at HM7 HA7 ⊢
  clear hU7
  have H12 := Lib.hid (H9.out.step HA7.out)
  clear H9
  have H13 := Lib.hid (H10.out.step HA7.out)
  clear H10
  have H14 := Lib.hid (keep2 HA7.out H11.out)
  clear H11 HA7
  go_wp2_with fail
  have HZL := Lib.hid (show (w.heap.size) < U7.heap.size from H12.out.2.2)
  go_loopw [13, 14] (fun rv iv wr => ∃ k : Nat, k ≤ cn ∧ iv = .int .i64 (k : Int) ∧ Hid (PciR w U7.heap.size (spP s D k) rv wr) ∧ Hid (Below U7.heap.size U7 wr)) (fun _ iv _ => cn - (intOf iv).toNat)
  case atStart => exact ⟨0, by omega, rfl, Lib.hid (PciR.nil _ _ _), Lib.hid (Below.refl _ _)⟩
  case round =>
    obtain ⟨k, hk, rfl, HPR, HW⟩ := hrel
    obtain ⟨ra, rc, rfl⟩ := HPR.out.row
    have HZ := Lib.hid (H12.out.step HW.out)
    have HL2 := Lib.hid (H13.out.step HW.out)
    have HM := Lib.hid (HM7.out.step HW.out)
    have HB := Lib.hid (keep2 HW.out H14.out)
    clear H12 HM7 H13 H14
    have HPL := Lib.hid (spP_len s D k)
    by_cases hlt : k < cn
    rotate_left
    · skip
      obtain rfl : k = cn := by omega
      have t3 : ¬ (k : Int) < (LS.length : Int) := by rw [HLL.out]; omega
      have t4 : ¬ k < LS.length := by rw [HLL.out]; omega
      have xm0 := HM.out.c 0 rfl
      have xm1 := HM.out.c 1 rfl
      have xm2 := HM.out.c 2 rfl
      have xm3 := HM.out.c 3 rfl
      have xm4 := HM.out.c 4 rfl
      have zm := HM.out.2.2
      have HPP9 := HPR
      have xz0 := HZ.out.c 0 rfl
      have xz1 := HZ.out.c 1 rfl
      have xz2 := HZ.out.c 2 rfl
      have xz3 := HZ.out.c 3 rfl
      have xz4 := HZ.out.c 4 rfl
      have zz := HZ.out.2.2
      have fz0 := HZ.out.f 0 (by simp)
      have fz1 := HZ.out.f 1 (by simp)
      have fz2 := HZ.out.f 2 (by simp)
      have fz3 := HZ.out.f 3 (by simp)
      have fz4 := HZ.out.f 4 (by simp)
      have HLE := Lib.hid (show w.heap.size ≤ (w.heap.size) from by omega)
      have q90 := Lib.hid (Cs.set HZ.out 0 (by simp) (.int .i64 ver) (vs' := #[.int .i64 ver, .int .i64 0, .int .i64 0, .int .i64 0, .int .i64 0]) rfl)
      have q91 := Lib.hid (Cs.set q90.out 1 (by simp) (.int .i64 (LS.length : Int)) (vs' := #[.int .i64 ver, .int .i64 (LS.length : Int), .int .i64 0, .int .i64 0, .int .i64 0]) rfl)
      have q92 := Lib.hid (Cs.set q91.out 2 (by simp) (.int .i64 (s : Int)) (vs' := #[.int .i64 ver, .int .i64 (LS.length : Int), .int .i64 (s : Int), .int .i64 0, .int .i64 0]) rfl)
      have q93 := Lib.hid (Cs.set q92.out 3 (by simp) (.int .i64 rt) (vs' := #[.int .i64 ver, .int .i64 (LS.length : Int), .int .i64 (s : Int), .int .i64 rt, .int .i64 0]) rfl)
      have q94 := Lib.hid (Cs.set q93.out 4 (by simp) (.int .i64 tg) (vs' := #[.int .i64 ver, .int .i64 (LS.length : Int), .int .i64 (s : Int), .int .i64 rt, .int .i64 tg]) rfl)
      clear q90 q91 q92 q93
      go_wp2
      have hC := q94.out
      have hB := (((((HB.out.setCell (p := ⟨(w.heap.size), 0, none⟩) HLE.out (.int .i64 ver)).setCell (p := ⟨(w.heap.size), 1, none⟩) HLE.out (.int .i64 (LS.length : Int))).setCell (p := ⟨(w.heap.size), 2, none⟩) HLE.out (.int .i64 (s : Int))).setCell (p := ⟨(w.heap.size), 3, none⟩) HLE.out (.int .i64 rt)).setCell (p := ⟨(w.heap.size), 4, none⟩) HLE.out (.int .i64 tg))
      have hX := (PciR.set (PciR.set (PciR.set (PciR.set (PciR.set HPP9.out HZL.out 0 (.int .i64 ver)) HZL.out 1 (.int .i64 (LS.length : Int))) HZL.out 2 (.int .i64 (s : Int))) HZL.out 3 (.int .i64 rt)) HZL.out 4 (.int .i64 tg))
      obtain ⟨V9, hV9⟩ : ∃ z9, (((((wr.setCell ⟨(w.heap.size), 0, none⟩ (.int .i64 ver)).setCell ⟨(w.heap.size), 1, none⟩ (.int .i64 (LS.length : Int))).setCell ⟨(w.heap.size), 2, none⟩ (.int .i64 (s : Int))).setCell ⟨(w.heap.size), 3, none⟩ (.int .i64 rt)).setCell ⟨(w.heap.size), 4, none⟩ (.int .i64 tg)) = z9 := ⟨_, rfl⟩
      rw [hV9] at hC hB hX ⊢
      clear hV9
      have k0 : V9.cell? ⟨(w.heap.size), 0, none⟩ = some (.int .i64 ver) := hC.c 0 rfl
      have k1 : V9.cell? ⟨(w.heap.size), 1, none⟩ = some (.int .i64 (LS.length : Int)) := hC.c 1 rfl
      have k2 : V9.cell? ⟨(w.heap.size), 2, none⟩ = some (.int .i64 (s : Int)) := hC.c 2 rfl
      have k3 : V9.cell? ⟨(w.heap.size), 3, none⟩ = some (.int .i64 rt) := hC.c 3 rfl
      have k4 : V9.cell? ⟨(w.heap.size), 4, none⟩ = some (.int .i64 tg) := hC.c 4 rfl
      exact bodyPost_ret (v := .tuple #[.agg #[.int .i64 ver, .int .i64 (LS.length : Int), .int .i64 (s : Int), .int .i64 rt, .int .i64 tg], .slice ra (spP s D k).length rc, .int .i64 0]) (by simp [results, Try.results12, go_sem, k0, k1, k2, k3, k4]) rfl (⟨_, by rw [HLL.out], hX.at hB (by rw [spP_len]; have := HCC.out; omega), hB⟩)
    have HIL := Lib.hid hlt
    have hlL : k < LS.length := by rw [HLL.out]; exact hlt
    have HLX := Lib.hid hlL
    have HSU := Lib.hid (spP_succ s D k)
    have HGE := Lib.hid (show LS.getD k [] = chk s D k by rw [← HLS.out]; exact chL_get (by rw [HCN0.out]; exact hlt))
    obtain ⟨bb, of2, rfl, cv, x0, hcv⟩ : ∃ bb of2, ua = some ⟨bb, of2, none⟩ ∧ ∃ u, wr.cell? ⟨bb, of2 + k, none⟩ = some u ∧ IntsAt w u (chk s D k) := by
      obtain ⟨a2, c2, e2, -, hx⟩ := HL2.out
      obtain ⟨bb, of2, e3, hx⟩ := hx (by intro q; rw [q] at hlL; simp at hlL)
      obtain ⟨u, h1, h2⟩ := hx k (chk s D k) (by rw [← HGE.out]; exact rows_get hlL)
      have : ua = a2 := by simp at e2; exact e2.1
      exact ⟨bb, of2, this.trans e3, u, h1, h2⟩
    have HCV := Lib.hid hcv
    obtain ⟨ca, cc, rfl, -, -⟩ := hcv
    obtain ⟨x, hx⟩ : ∃ z9, chk s D k = z9 := ⟨_, rfl⟩
    rw [hx] at x0 HCV
    have HXX := Lib.hid hx
    have HX0 := Lib.hid x0
    clear hx x0 hk hlt HZ HM
    have t3 : (k : Int) < (LS.length : Int) := by omega
    have t4 : decide ((k : Int) < (LS.length : Int)) = true := decide_eq_true t3
    go_upto_region 12 with fail
    obtain ⟨P, hP⟩ : ∃ z9, pthL (rowsT (lvs LS)) k = z9 := ⟨_, rfl⟩
    have HPT := Lib.hid hP
    have HPP := Lib.hid (show spP s D (k + 1) = spP s D k ++ [⟨k, x, P⟩] by rw [HSU.out, HLS.out, hP, HXX.out])
    clear hP t4
    have HK9 := Lib.hid (show (spP s D k).length ≤ 100000 by rw [HPL.out]; have h1 := HIL.out; have h2 := HCC.out; omega)
    have HL9 := Lib.hid (show LS.length ≤ 1000 by rw [HLL.out]; have h2 := HCC.out; omega)
    have HUS := Lib.hid HW.out.size
    obtain ⟨l0, hl0⟩ : ∃ z9, spP s D k = z9 := ⟨_, rfl⟩
    obtain ⟨l1, hl1⟩ : ∃ z9, spP s D (k + 1) = z9 := ⟨_, rfl⟩
    have HL1 := Lib.hid hl1.symm
    rw [hl0] at HPR HK9 HPP ⊢
    rw [hl1] at HPP
    clear hl0 hl1 HPL HSU HGE HXX
    obtain ⟨lit, hlit⟩ : ∃ lit : (Nat → Value) → Act, lit = fun vs => { tmps := List.toArray (Value.int IntKind.i64 key :: Value.int IntKind.i64 ver :: Value.int IntKind.i64 (s : Int) :: Value.slice (some { block := b, off := off }) D.length vc :: undef :: undef :: undef :: undef :: Value.pointer (some { block := w.heap.size, off := 0 }) :: Value.slice none 0 0 :: Value.int IntKind.i64 0 :: Value.slice (some { block := bb, off := of2 }) LS.length uc :: Value.pointer (some { block := u2.heap.size, off := 0 }) :: vs 12 :: Value.int IntKind.i64 (k : Int) :: Value.int IntKind.i64 key :: Value.bool true :: Value.bool false :: Value.bool false :: Value.int IntKind.i64 ver :: Value.bool true :: Value.bool false :: Value.bool false :: Value.bool false :: Value.int IntKind.i64 (s : Int) :: Value.bool true :: Value.bool false :: Value.bool false :: Value.bool false :: Value.slice (some { block := b, off := off }) D.length vc :: Value.int IntKind.i64 (D.length : Int) :: Value.bool false :: Value.bool false :: Value.bool false :: Value.slice (some { block := b, off := off }) D.length vc :: Value.bool true :: Value.bool false :: Value.bool false :: undef :: Value.int IntKind.i64 (s : Int) :: Value.slice (some { block := b, off := off }) D.length vc :: Value.slice (some { block := bb, off := of2 }) LS.length uc :: Value.slice (some { block := bb, off := of2 }) LS.length uc :: Value.int IntKind.i64 (LS.length : Int) :: Value.bool false :: undef :: Value.int IntKind.i64 ver :: Value.slice (some { block := bb, off := of2 }) LS.length uc :: Value.int IntKind.i64 (LS.length : Int) :: Value.int IntKind.i64 (s : Int) :: Value.slice (some { block := bb, off := of2 }) LS.length uc :: Value.int IntKind.i64 rt :: Value.agg #[Value.int IntKind.i64 ver, Value.int IntKind.i64 (LS.length : Int), Value.int IntKind.i64 (s : Int), Value.int IntKind.i64 rt, Value.int IntKind.i64 0] :: Value.int IntKind.i64 key :: Value.agg #[Value.int IntKind.i64 ver, Value.int IntKind.i64 (LS.length : Int), Value.int IntKind.i64 (s : Int), Value.int IntKind.i64 rt, Value.int IntKind.i64 0] :: nv :: Value.int IntKind.i64 tg :: Value.pointer (some { block := u2.heap.size, off := 4 }) :: Value.int IntKind.i64 (k : Int) :: Value.slice (some { block := bb, off := of2 }) LS.length uc :: Value.int IntKind.i64 (LS.length : Int) :: Value.bool true :: u62 :: u63 :: vs 0 :: vs 1 :: vs 2 :: vs 3 :: vs 4 :: vs 5 :: vs 6 :: vs 7 :: vs 8 :: vs 9 :: vs 10 :: vs 11 :: undef :: undef :: []), defers := [] } := ⟨_, rfl⟩
    have HLIT := Lib.hid hlit
    clear hlit
    obtain ⟨val, hval⟩ : ∃ val : List Value, val = [.slice ra l0.length rc, .int .i64 (k : Int), .slice (some ⟨bb, of2, none⟩) LS.length uc, .int .i64 (k : Int), .pointer (some ⟨bb, of2 + k, none⟩), .slice ca x.length cc, .slice (some ⟨bb, of2, none⟩) LS.length uc, .int .i64 (k : Int), undef, undef, undef, undef, undef] := ⟨_, rfl⟩
    have E0 := Lib.hid (show val.getD 0 undef = .slice ra l0.length rc by rw [hval]; rfl)
    have E1 := Lib.hid (show val.getD 1 undef = .int .i64 (k : Int) by rw [hval]; rfl)
    have E2 := Lib.hid (show val.getD 2 undef = .slice (some ⟨bb, of2, none⟩) LS.length uc by rw [hval]; rfl)
    have E3 := Lib.hid (show val.getD 3 undef = .int .i64 (k : Int) by rw [hval]; rfl)
    have E4 := Lib.hid (show val.getD 4 undef = .pointer (some ⟨bb, of2 + k, none⟩) by rw [hval]; rfl)
    have E5 := Lib.hid (show val.getD 5 undef = .slice ca x.length cc by rw [hval]; rfl)
    have E6 := Lib.hid (show val.getD 6 undef = .slice (some ⟨bb, of2, none⟩) LS.length uc by rw [hval]; rfl)
    have E7 := Lib.hid (show val.getD 7 undef = .int .i64 (k : Int) by rw [hval]; rfl)
    clear hval
    obtain ⟨G, hG0⟩ : ∃ G : Bool → Nat → Value → World → Prop, G = (fun bq iq vq ww => (iq = 8 → QpP U7.heap.size P bq vq ww) ∧ (iq = 9 → QpA U7.heap.size (k : Int) (.slice ca x.length cc) P bq vq ww) ∧ (iq = 10 → QpS U7.heap.size (k : Int) (.slice ca x.length cc) P bq vq ww) ∧ (iq = 11 → QpZ w U7.heap.size l1 bq vq ww) ∧ (iq = 12 → QpZ w U7.heap.size l1 bq vq ww) ∧ (iq ≠ 8 → iq ≠ 9 → iq ≠ 10 → iq ≠ 11 → iq ≠ 12 → vq = val.getD iq undef)) := ⟨_, rfl⟩
    have HG := Lib.hid hG0
    clear hG0
    refine region_inv (NZ lit 11 12 (.slice ra l0.length rc) (fun p q => (p == 11 && q == 0) || (p == 11 && q == 10) || (p == 9 && q == 5) || (p == 9 && q == 8) || (p == 10 && q == 9) || (p == 12 && q == 11)) G fun bq wv => (bq = false → Below wr.heap.size wr wv) ∧ (bq = true → Below U7.heap.size U7 wv)) (by kernel_rfl) (by decide +kernel) ?_ ?_ ?_
    · exact NZ.start (fun i => ([u64, u65, u66, u67, u68, u69, u70, u71, u72, u73, u74, u75, Value.slice ra l0.length rc] : List Value).getD i undef) (by rw [HLIT.out]; rfl) ⟨fun _ => below_drew _ _, fun h => (by cases h)⟩ rfl
    · refine ⟨?_, ?_, ?_, ?_, ?_, ?_, ?_, ?_, ?_, ?_, ?_, ?_, ?_, trivial⟩
      · intro bf ac wv hfb haf hJ K' hK
        obtain ⟨vs, rfl, hz, ja, hB, j4⟩ := hJ
        replace hz := Lib.hid hz
        replace hK := Lib.hid hK
        rw [HG.out] at j4
        replace j4 := Lib.hid (And.intro ja j4)
        replace hB := Lib.hid hB
        clear ja haf
        have ez : vs 12 = .slice ra l0.length rc := hz.out (by
          cases h : bf 12
          · rfl
          · exact absurd ((j4.out.1 11 0 rfl (j4.out.1 12 11 rfl h)).symm.trans hfb) (by simp))
        rw [HLIT.out]
        go_simp
        exact hK.out _ _ (NZ.next (wv := wv) (vs := vs) hz.out 0 (by omega) (fun q h => absurd h (by simp)) (x := .slice ra l0.length rc) (by rw [HLIT.out]; simp only [upv, ez, Nat.reduceBEq, cond_true, cond_false]) (by rw [HG.out]; exact j4.out) hB.out (by rw [HG.out]; exact fun _ _ h => h) (by rw [HG.out]; exact ⟨fun h => absurd h (by decide), fun h => absurd h (by decide), fun h => absurd h (by decide), fun h => absurd h (by decide), fun h => absurd h (by decide), fun _ _ _ _ _ => E0.out.symm⟩))
      · intro bf ac wv hfb haf hJ K' hK
        obtain ⟨vs, rfl, hz, ja, hB, j4⟩ := hJ
        replace hz := Lib.hid hz
        replace hK := Lib.hid hK
        rw [HG.out] at j4
        replace j4 := Lib.hid (And.intro ja j4)
        replace hB := Lib.hid hB
        clear ja haf
        rw [HLIT.out]
        go_simp
        exact hK.out _ _ (NZ.next (wv := wv) (vs := vs) hz.out 1 (by omega) (fun q h => absurd h (by simp)) (x := .int .i64 (k : Int)) (by rw [HLIT.out]; rfl) (by rw [HG.out]; exact j4.out) hB.out (by rw [HG.out]; exact fun _ _ h => h) (by rw [HG.out]; exact ⟨fun h => absurd h (by decide), fun h => absurd h (by decide), fun h => absurd h (by decide), fun h => absurd h (by decide), fun h => absurd h (by decide), fun _ _ _ _ _ => E1.out.symm⟩))
      · intro bf ac wv hfb haf hJ K' hK
        obtain ⟨vs, rfl, hz, ja, hB, j4⟩ := hJ
        replace hz := Lib.hid hz
        replace hK := Lib.hid hK
        rw [HG.out] at j4
        replace j4 := Lib.hid (And.intro ja j4)
        replace hB := Lib.hid hB
        clear ja haf
        rw [HLIT.out]
        go_simp
        exact hK.out _ _ (NZ.next (wv := wv) (vs := vs) hz.out 2 (by omega) (fun q h => absurd h (by simp)) (x := .slice (some ⟨bb, of2, none⟩) LS.length uc) (by rw [HLIT.out]; rfl) (by rw [HG.out]; exact j4.out) hB.out (by rw [HG.out]; exact fun _ _ h => h) (by rw [HG.out]; exact ⟨fun h => absurd h (by decide), fun h => absurd h (by decide), fun h => absurd h (by decide), fun h => absurd h (by decide), fun h => absurd h (by decide), fun _ _ _ _ _ => E2.out.symm⟩))
      · intro bf ac wv hfb haf hJ K' hK
        obtain ⟨vs, rfl, hz, ja, hB, j4⟩ := hJ
        replace hz := Lib.hid hz
        replace hK := Lib.hid hK
        rw [HG.out] at j4
        replace j4 := Lib.hid (And.intro ja j4)
        replace hB := Lib.hid hB
        clear ja haf
        rw [HLIT.out]
        go_simp
        exact hK.out _ _ (NZ.next (wv := wv) (vs := vs) hz.out 3 (by omega) (fun q h => absurd h (by simp)) (x := .int .i64 (k : Int)) (by rw [HLIT.out]; rfl) (by rw [HG.out]; exact j4.out) hB.out (by rw [HG.out]; exact fun _ _ h => h) (by rw [HG.out]; exact ⟨fun h => absurd h (by decide), fun h => absurd h (by decide), fun h => absurd h (by decide), fun h => absurd h (by decide), fun h => absurd h (by decide), fun _ _ _ _ _ => E3.out.symm⟩))
      · intro bf ac wv hfb haf hJ K' hK
        obtain ⟨vs, rfl, hz, ja, hB, j4⟩ := hJ
        replace hz := Lib.hid hz
        replace hK := Lib.hid hK
        simp [Region.binds] at haf
        rw [HG.out] at j4
        have e2 := ((j4 2 (by simp [haf])).2.2.2.2.2 (by decide) (by decide) (by decide) (by decide) (by decide)).trans E2.out
        have e3 := ((j4 3 (by simp [haf])).2.2.2.2.2 (by decide) (by decide) (by decide) (by decide) (by decide)).trans E3.out
        replace j4 := Lib.hid (And.intro ja j4)
        replace hB := Lib.hid hB
        clear ja haf
        have t3 := HLX.out
        rw [HLIT.out]
        go_simp
        exact hK.out _ _ (NZ.next (wv := wv) (vs := vs) hz.out 4 (by omega) (fun q h => absurd h (by simp)) (x := .pointer (some ⟨bb, of2 + k, none⟩)) (by rw [HLIT.out]; simp only [upv, e2, e3, Nat.reduceBEq, cond_true, cond_false]) (by rw [HG.out]; exact j4.out) hB.out (by rw [HG.out]; exact fun _ _ h => h) (by rw [HG.out]; exact ⟨fun h => absurd h (by decide), fun h => absurd h (by decide), fun h => absurd h (by decide), fun h => absurd h (by decide), fun h => absurd h (by decide), fun _ _ _ _ _ => E4.out.symm⟩))
      · intro bf ac wv hfb haf hJ K' hK
        obtain ⟨vs, rfl, hz, ja, hB, j4⟩ := hJ
        replace hz := Lib.hid hz
        replace hK := Lib.hid hK
        simp [Region.binds] at haf
        rw [HG.out] at j4
        have e4 := ((j4 4 (by simp [haf])).2.2.2.2.2 (by decide) (by decide) (by decide) (by decide) (by decide)).trans E4.out
        have hd : bf 11 = false := by
          cases h : bf 11
          · rfl
          · exact absurd ((ja 9 5 rfl (ja 10 9 rfl (ja 11 10 rfl h))).symm.trans hfb) (by simp)
        have hM := Lib.hid (hB.1 hd)
        replace j4 := Lib.hid (And.intro ja j4)
        replace hB := Lib.hid hB
        clear ja haf
        have q0 := keep1 hM.out HX0.out
        have qz := World.block_lt_of_cell? _ _ q0
        have qz : bb < wv.heap.size := qz
        rw [HLIT.out]
        go_simp
        exact hK.out _ _ (NZ.next (wv := wv) (vs := vs) hz.out 5 (by omega) (fun q h => absurd h (by simp)) (x := .slice ca x.length cc) (by rw [HLIT.out]; simp only [upv, e4, Nat.reduceBEq, cond_true, cond_false]) (by rw [HG.out]; exact j4.out) hB.out (by rw [HG.out]; exact fun _ _ h => h) (by rw [HG.out]; exact ⟨fun h => absurd h (by decide), fun h => absurd h (by decide), fun h => absurd h (by decide), fun h => absurd h (by decide), fun h => absurd h (by decide), fun _ _ _ _ _ => E5.out.symm⟩))
      · intro bf ac wv hfb haf hJ K' hK
        obtain ⟨vs, rfl, hz, ja, hB, j4⟩ := hJ
        replace hz := Lib.hid hz
        replace hK := Lib.hid hK
        rw [HG.out] at j4
        replace j4 := Lib.hid (And.intro ja j4)
        replace hB := Lib.hid hB
        clear ja haf
        rw [HLIT.out]
        go_simp
        exact hK.out _ _ (NZ.next (wv := wv) (vs := vs) hz.out 6 (by omega) (fun q h => absurd h (by simp)) (x := .slice (some ⟨bb, of2, none⟩) LS.length uc) (by rw [HLIT.out]; rfl) (by rw [HG.out]; exact j4.out) hB.out (by rw [HG.out]; exact fun _ _ h => h) (by rw [HG.out]; exact ⟨fun h => absurd h (by decide), fun h => absurd h (by decide), fun h => absurd h (by decide), fun h => absurd h (by decide), fun h => absurd h (by decide), fun _ _ _ _ _ => E6.out.symm⟩))
      · intro bf ac wv hfb haf hJ K' hK
        obtain ⟨vs, rfl, hz, ja, hB, j4⟩ := hJ
        replace hz := Lib.hid hz
        replace hK := Lib.hid hK
        rw [HG.out] at j4
        replace j4 := Lib.hid (And.intro ja j4)
        replace hB := Lib.hid hB
        clear ja haf
        rw [HLIT.out]
        go_simp
        exact hK.out _ _ (NZ.next (wv := wv) (vs := vs) hz.out 7 (by omega) (fun q h => absurd h (by simp)) (x := .int .i64 (k : Int)) (by rw [HLIT.out]; rfl) (by rw [HG.out]; exact j4.out) hB.out (by rw [HG.out]; exact fun _ _ h => h) (by rw [HG.out]; exact ⟨fun h => absurd h (by decide), fun h => absurd h (by decide), fun h => absurd h (by decide), fun h => absurd h (by decide), fun h => absurd h (by decide), fun _ _ _ _ _ => E7.out.symm⟩))
      · intro bf ac wv hfb haf hJ K' hK
        obtain ⟨vs, rfl, hz, ja, hB, j4⟩ := hJ
        replace hz := Lib.hid hz
        replace hK := Lib.hid hK
        simp [Region.binds] at haf
        rw [HG.out] at j4
        have e6 := ((j4 6 (by simp [haf])).2.2.2.2.2 (by decide) (by decide) (by decide) (by decide) (by decide)).trans E6.out
        have e7 := ((j4 7 (by simp [haf])).2.2.2.2.2 (by decide) (by decide) (by decide) (by decide) (by decide)).trans E7.out
        have hd : bf 11 = false := by
          cases h : bf 11
          · rfl
          · exact absurd ((ja 9 8 rfl (ja 10 9 rfl (ja 11 10 rfl h))).symm.trans hfb) (by simp)
        have hM := Lib.hid (hB.1 hd)
        replace j4 := Lib.hid (And.intro ja j4)
        replace hB := Lib.hid hB
        clear ja haf
        have HLV := Lib.hid ((HL2.out.step hM.out).rows (keep2 hM.out HB.out))
        rw [HLIT.out]
        go_simp
        go_at_call 47
        refine (rpath_own _ LS k _ HLV.out HL9.out HLX.out).mono ?_
        rintro e w4 ⟨pv, rfl, hpv, b4⟩
        rw [HPT.out] at hpv
        have hpw := row_base hpv (Nat.le_trans HUS.out hM.out.size)
        obtain ⟨pa, pc, rfl⟩ := row_slice hpw
        exact hK.out _ _ (NZ.next (wv := wv) (vs := vs) hz.out 8 (by omega) (fun q h => absurd h (by simp)) (x := (.slice pa P.length pc)) (by rw [HLIT.out]; simp only [upv, e6, e7, Nat.reduceBEq, cond_true, cond_false]) (by rw [HG.out]; exact j4.out) ⟨fun _ => keep2 b4 hM.out, fun e => absurd (e.symm.trans hd) (by simp)⟩ (by rw [HG.out]; exact fun k hbk h => ⟨fun q => ((h.1 q).step b4), fun q => ((h.2.1 q).step b4), fun q => ((h.2.2.1 q).step b4), fun q => ((h.2.2.2.1 q).off hd), fun q => ((h.2.2.2.2.1 q).off hd), h.2.2.2.2.2⟩) (by rw [HG.out]; exact ⟨fun _ => ⟨pa, pc, rfl, fun _ => hpw⟩, fun h => absurd h (by decide), fun h => absurd h (by decide), fun h => absurd h (by decide), fun h => absurd h (by decide), fun h8 => absurd rfl h8⟩))
      · intro bf ac wv hfb haf hJ K' hK
        obtain ⟨vs, rfl, hz, ja, hB, j4⟩ := hJ
        replace hz := Lib.hid hz
        replace hK := Lib.hid hK
        simp [Region.binds] at haf
        rw [HG.out] at j4
        have e1 := ((j4 1 (by simp [haf])).2.2.2.2.2 (by decide) (by decide) (by decide) (by decide) (by decide)).trans E1.out
        have e5 := ((j4 5 (by simp [haf])).2.2.2.2.2 (by decide) (by decide) (by decide) (by decide) (by decide)).trans E5.out
        have e8 := (j4 8 (by simp [haf])).1 rfl
        have hb8 : bf 8 = true := by simp [haf]
        have hb5 : bf 5 = true := by simp [haf]
        obtain ⟨pa, pc, e8, h8⟩ := e8
        have H8 := Lib.hid h8
        clear h8
        replace j4 := Lib.hid (And.intro ja j4)
        replace hB := Lib.hid hB
        clear ja haf
        rw [e8] at H8
        rw [HLIT.out]
        go_simp
        exact hK.out _ _ (NZ.next (wv := wv) (vs := vs) hz.out 9 (by omega) (fun q h => by
          obtain rfl | rfl : q = 5 ∨ q = 8 := by simpa using h
          · exact hb5
          · exact hb8) (x := .agg #[.int .i64 (k : Int), .slice ca x.length cc, .slice pa P.length pc]) (by rw [HLIT.out]; simp only [upv, e1, e5, e8, Nat.reduceBEq, cond_true, cond_false]) (by rw [HG.out]; exact j4.out) hB.out (by rw [HG.out]; exact fun _ _ h => h) (by rw [HG.out]; exact ⟨fun h => absurd h (by decide), fun _ => ⟨pa, pc, rfl, H8.out⟩, fun h => absurd h (by decide), fun h => absurd h (by decide), fun h => absurd h (by decide), fun h8 => fun h9 => absurd rfl h9⟩))
      · intro bf ac wv hfb haf hJ K' hK
        obtain ⟨vs, rfl, hz, ja, hB, j4⟩ := hJ
        replace hz := Lib.hid hz
        replace hK := Lib.hid hK
        simp [Region.binds] at haf
        rw [HG.out] at j4
        have e9 := (j4 9 (by simp [haf])).2.1 rfl
        have hd : bf 11 = false := by
          cases h : bf 11
          · rfl
          · exact absurd ((ja 11 10 rfl h).symm.trans hfb) (by simp)
        have hM := Lib.hid (hB.1 hd)
        have HA := Lib.hid (show ∀ q, (fun p q => (p == 11 && q == 0) || (p == 11 && q == 10) || (p == 9 && q == 5) || (p == 9 && q == 8) || (p == 10 && q == 9) || (p == 12 && q == 11)) 10 q = true → bf q = true from fun q hi => by
          obtain rfl : q = 9 := by simpa [or_assoc] using hi
          all_goals simp [haf])
        replace j4 := Lib.hid (And.intro ja j4)
        replace hB := Lib.hid hB
        clear ja haf
        obtain ⟨pa, pc, e9, h9⟩ := e9
        replace h9 := Lib.hid (h9 hd)
        rw [HLIT.out]
        go_simp
        have b4 := al wv (.cells #[.int .i64 (k : Int), .slice ca x.length cc, .slice pa P.length pc] 29)
        exact hK.out _ _ (NZ.next (wv := wv) (vs := vs) hz.out 10 (by omega) (HA.out) (x := (.slice (some ⟨wv.heap.size, 0, none⟩) 1 1)) (by rw [HLIT.out]; simp only [upv, e9, Nat.reduceBEq, cond_true, cond_false]) (by rw [HG.out]; exact j4.out) ⟨fun _ => keep2 b4 hM.out, fun e => absurd (e.symm.trans hd) (by simp)⟩ (by rw [HG.out]; exact fun k hbk h => ⟨fun q => ((h.1 q).step b4), fun q => ((h.2.1 q).step b4), fun q => ((h.2.2.1 q).step b4), fun q => ((h.2.2.2.1 q).off hd), fun q => ((h.2.2.2.2.1 q).off hd), h.2.2.2.2.2⟩) (by rw [HG.out]; exact ⟨fun h => absurd h (by decide), fun h => absurd h (by decide), fun _ => ⟨wv.heap.size, rfl, fun _ => ⟨pa, pc, BoxN.new wv #[.int .i64 (k : Int), .slice ca x.length cc, .slice pa P.length pc] 29, row_step h9.out b4⟩⟩, fun h => absurd h (by decide), fun h => absurd h (by decide), fun h8 => fun h9 => fun h10 => absurd rfl h10⟩))
      · intro bf ac wv hfb haf hJ K' hK
        obtain ⟨vs, rfl, hz, ja, hB, j4⟩ := hJ
        replace hz := Lib.hid hz
        replace hK := Lib.hid hK
        simp [Region.binds] at haf
        rw [HG.out] at j4
        have e0 := ((j4 0 (by simp [haf])).2.2.2.2.2 (by decide) (by decide) (by decide) (by decide) (by decide)).trans E0.out
        have e10 := (j4 10 (by simp [haf])).2.2.1 rfl
        rw [hfb] at j4 hB
        try rw [hfb] at e10
        have HA := Lib.hid (show ∀ q, (fun p q => (p == 11 && q == 0) || (p == 11 && q == 10) || (p == 9 && q == 5) || (p == 9 && q == 8) || (p == 10 && q == 9) || (p == 12 && q == 11)) 11 q = true → bf q = true from fun q hi => by
          obtain rfl | rfl : q = 0 ∨ q = 10 := by simpa [or_assoc] using hi
          all_goals simp [haf])
        have hz12 : bf 12 = false := by
          cases h : bf 12
          · rfl
          · exact absurd ((ja 12 11 rfl h).symm.trans hfb) (by simp)
        have hM := Lib.hid (hB.1 rfl)
        replace j4 := Lib.hid j4
        have HE := Lib.hid (And.intro ja HA.out)
        clear ja haf hB HA
        obtain ⟨g9, e10, h10⟩ := e10
        obtain ⟨pa, pc, hbx, hpw⟩ := h10 rfl
        obtain ⟨na, nc, w8, hr8, hb8, hp8⟩ := (HPR.out.step hM.out).app (x := ⟨(k : Int), x, P⟩) hbx HCV.out hpw HK9.out HPP.out (Nat.le_trans HUS.out hM.out.size)
        rw [HLIT.out]
        refine step_app rfl _ _ 32 rfl _ _ _ e0 e10 hr8 ?_
        refine hK.out _ _ (NZ.piv (vs := vs) hz.out (by omega) (x := .slice na l1.length nc) (by rw [HLIT.out]; rfl) HE.out ⟨fun e => (by cases e), fun _ => (HW.out.trans (hM.out.mono HUS.out)).trans hb8⟩ (fun j hj hb => ?_) (by rw [HG.out]; exact ⟨fun h => absurd h (by decide), fun h => absurd h (by decide), fun h => absurd h (by decide), fun _ => ⟨na, nc, rfl, fun _ => hp8⟩, fun h => absurd h (by decide), fun h8 => fun h9 => fun h10 => fun h11 => absurd rfl h11⟩))
        rw [HG.out]
        have q := j4.out j hb
        exact ⟨fun h => (q.1 h).put _, fun h => (q.2.1 h).put _, fun h => (q.2.2.1 h).put _, fun h => absurd h hj, fun h => (by rw [h, hz12] at hb; cases hb), q.2.2.2.2.2⟩
      · intro bf ac wv hfb haf hJ K' hK
        obtain ⟨vs, rfl, hz, ja, hB, j4⟩ := hJ
        replace hz := Lib.hid hz
        replace hK := Lib.hid hK
        simp [Region.binds] at haf
        rw [HG.out] at j4
        have e11 := (j4 11 (by simp [haf])).2.2.2.1 rfl
        have hb11 : bf 11 = true := by simp [haf]
        obtain ⟨na, nc, e11, h11⟩ := e11
        have H11 := Lib.hid h11
        clear h11
        replace j4 := Lib.hid (And.intro ja j4)
        replace hB := Lib.hid hB
        clear ja haf
        rw [e11] at H11
        rw [HLIT.out]
        go_simp
        exact hK.out _ _ (NZ.next (wv := wv) (vs := vs) hz.out 12 (by omega) (fun q h => by
          obtain rfl : q = 11 := by simpa using h
          exact hb11) (x := .slice na l1.length nc) (by rw [HLIT.out]; simp only [upv, e11, Nat.reduceBEq, cond_true, cond_false]) (by rw [HG.out]; exact j4.out) hB.out (by rw [HG.out]; exact fun _ _ h => h) (by rw [HG.out]; exact ⟨fun h => absurd h (by decide), fun h => absurd h (by decide), fun h => absurd h (by decide), fun h => absurd h (by decide), fun _ => ⟨na, nc, rfl, H11.out⟩, fun h8 => fun h9 => fun h10 => fun h11 => fun h12 => absurd rfl h12⟩))
    · intro bf ac wv hall hJ
      obtain ⟨vs, rfl, -, -, hB, j4⟩ := hJ
      rw [HG.out] at j4
      rw [hall 11 (by decide)] at hB j4
      have hM := Lib.hid (hB.2 rfl)
      clear hB
      obtain ⟨na, nc, e9, h9⟩ := (j4 12 (hall 12 (by decide))).2.2.2.2.1 rfl
      have HP8 := Lib.hid (h9 rfl)
      have HB8 := hM
      rw [e9] at HP8
      clear h9 j4 hall
      rw [HLIT.out]
      dsimp only
      rw [e9]
      clear e9 HLIT HG
      generalize vs = us8
      have hk9 : k ≤ 1000 := by have h1 := HIL.out; have h2 := HCC.out; omega
      go_wp2
      go_roundw
      case rel => exact ⟨k + 1, HIL.out, by go_num, (by rw [← HL1.out]; exact HP8), HB8⟩
      case measure => have := HIL.out; simp [intOf]; omega
theorem rsplit_any (key ver s : Int) (va : Option Addr) (vc : Nat) (D : List Int) (w : World) (h : IntsAt w (.slice va D.length vc) D) (hn9 : D.length ≤ 5000) (hcp : D.length ≤ vc) {E : Int} {M : Mf} {l : List Pc} (hE : spE key ver s D = E) (hM : spM key ver s D E = M) (hL : spL s D E = l) : Calls Try.prog 12 #[.int .i64 key, .int .i64 ver, .int .i64 s, .slice va D.length vc] w (ChI M l E w) := by
  subst hM hL hE
  have one : (inB 0 2147483646 key && (inB 1 1000000 ver && (inB 1 32 s && (!D.isEmpty && daB D)))) = false → spE key ver s D = 1 := fun h => by unfold spE; rw [if_pos h]
  cases h0 : inB 0 2147483646 key
  · rw [one (by rw [h0]; rfl)]; exact rsplit_k key ver _ D w h hn9 s h0
  · cases h1 : inB 1 1000000 ver
    · rw [one (by rw [h0, h1]; rfl)]; exact rsplit_v key ver _ D w h hn9 s h0 h1
    · cases h2 : inB 1 32 s
      · rw [one (by rw [h0, h1, h2]; rfl)]; exact rsplit_s key ver _ D w h hn9 s h0 h1 h2
      · obtain ⟨sn, rfl⟩ := Int.eq_ofNat_of_zero_le (show 0 ≤ s by have := (inB_iff.1 h2).1; omega)
        cases D with
        | nil => rw [one (by rw [h0, h1, h2]; rfl)]; exact rsplit_z key ver va vc w h sn h0 h1 h2
        | cons y D =>
          have hp : 0 < (y :: D).length := by simp
          cases h3 : daB (y :: D)
          · rw [one (by rw [h0, h1, h2, h3]; rfl)]; exact rsplit_d key ver _ _ w h hn9 sn h0 h1 h2 hp h3
          · have hall : ¬ (inB 0 2147483646 key && (inB 1 1000000 ver && (inB 1 32 (sn : Int) && (!(y :: D).isEmpty && daB (y :: D))))) = false := by rw [h0, h1, h2, h3]; simp
            by_cases hc : 64 < chN (y :: D).length sn
            · have : spE key ver (sn : Int) (y :: D) = 2 := by unfold spE; rw [if_neg hall, if_pos (by simpa using hc)]
              rw [this]; exact rsplit_l key ver va vc _ w h hn9 sn h0 h1 h2 hp h3 hcp _ rfl hc
            · have : spE key ver (sn : Int) (y :: D) = 0 := by unfold spE; rw [if_neg hall, if_neg (by simpa using hc)]
              rw [this]; exact rsplit_ok key ver va vc _ w h hn9 sn h0 h1 h2 hp h3 hcp _ rfl hc _ _ rfl rfl
end Go.Proofs.Yteodafhgfcbdpaa
