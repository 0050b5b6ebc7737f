/- Updates: a slot is copied. -/
import Derived.Test.YtiiehoeoaalbmaaUb
import Derived.Test.YtiiehoeoaalbmaaUn
import Derived.Deep.CutRange
namespace Go.Proofs.Ytiiehoeoaalbmaa
open Go.RowKit

/-- A list of numbers made in a region. -/
def QcL (N : Nat) (x : List Int) (b : Bool) (v : Value) (w : World) : Prop := ∃ ca cc, v = .slice ca x.length cc ∧ (b = false → IntsAt w v x ∧ (x ≠ [] → ∀ g off n c, v = .slice (some ⟨g, off, none⟩) n c → N ≤ g ∧ tyB w g = some 3))
theorem QcL.step {N : Nat} {x : List Int} {b : Bool} {v : Value} {w w' : World} (h : QcL N x b v w) (hb : Below w.heap.size w w') : QcL N x b v w' := by
  obtain ⟨ca, cc, e, h⟩ := h
  exact ⟨ca, cc, e, fun q => ⟨(h q).1.step hb, fun hx g off n c e => ⟨((h q).2 hx g off n c e).1, tyB_step ((h q).2 hx g off n c e).2 hb⟩⟩⟩
theorem QcL.put {N : Nat} {x : List Int} {b : Bool} {v : Value} {w : World} (h : QcL N x b v w) (w' : World) : QcL N x true v w' := by
  obtain ⟨ca, cc, e, h⟩ := h
  exact ⟨ca, cc, e, fun q => by cases q⟩
theorem qc_of {N : Nat} {x : List Int} {u : Value} {w : World} (h : w.ownsRow N 3 1 u x.length (x.map (Value.int .i64))) {N' : Nat} (hN : N' ≤ N) : QcL N' x false u w := by
  obtain ⟨ca, cc, rfl⟩ := row_slice h
  refine ⟨ca, cc, rfl, fun _ => ⟨ints_of_row h, fun _ g off n c e => ?_⟩⟩
  have := row_own h (k := g) (by cases e; rfl)
  refine ⟨by omega, ?_⟩
  rcases h.2 with ⟨h1, -⟩ | ⟨g2, cap2, cur, h1, h3, h2, h4⟩
  · rw [h1] at e; cases e
  · rw [h1] at e
    obtain rfl : g2 = g := by simp at e; exact e.1.1
    unfold tyB; rw [h2]; rfl
theorem getD_memL {L : List (List Int)} {k : Nat} (h : k < L.length) : L.getD k [] ∈ L := by simp [h]
/-- The lists before the k-th lie in blocks of their own. -/
def OwK (k n2 : Nat) (L : List (List Int)) (lv : Value) (w : World) : Prop :=
  ∀ i, i < k → L.getD i [] ≠ [] → ∀ g n c, lv = .slice (some ⟨g, 0, none⟩) n c → ∀ b off n c, w.cell? ⟨g, i, none⟩ = some (.slice (some ⟨b, off, none⟩) n c) → n2 ≤ b ∧ tyB w b = some 3
theorem OwK.step {k n1 n2 : Nat} {L : List (List Int)} {lv : Value} {w w' : World} (h : OwK k n2 L lv w) (ho : OwR n1 n2 L lv w) (hk : k ≤ L.length) (hb : Below w.heap.size w w') : OwK k n2 L lv w' := fun i hi hx g n c e b off n' c' hc => by
  obtain ⟨a, c2, e2, hm, h2⟩ := ho
  obtain ⟨g2, e3, h3, h4, -⟩ := h2 (by intro q; rw [q] at hk; simp at hk; omega)
  obtain rfl : g = g2 := by rw [e] at e2; simp at e2; rw [e3] at e2; simpa using e2.1
  rw [hb.cell (p := ⟨g, i, none⟩) h4] at hc
  have := h i hi hx g n c e b off n' c' hc
  exact ⟨this.1, tyB_step this.2 hb⟩
theorem OwR.strong {n1 n2 : Nat} {L : List (List Int)} {lv : Value} {w : World} (h : OwR n1 n2 L lv w) (hk : OwK L.length n2 L lv w) : OwR 0 n2 L lv w := by
  obtain ⟨a, c, e, hm, h⟩ := h
  refine ⟨a, c, e, hm, fun hl => ?_⟩
  obtain ⟨g, e1, h2, h3, h4⟩ := h hl
  refine ⟨g, e1, h2, h3, fun i hi => ?_⟩
  obtain ⟨f, u, hu, hi2, ha⟩ := h4 i hi
  exact ⟨f, u, hu, hi2, fun q b off n c' e' => ⟨.inr (hk i hi q g _ _ (by rw [e, e1]) b off n c' (by rw [hu, e'])), (ha.1 q b off n c' e').2⟩, ha.2⟩
/-- What copying keeps. -/
def CpW (k n1 n2 : Nat) (L : List (List Int)) (lv : Value) (bs br : Nat) (cs cr : Array Value) (w0 wv : World) : Prop := OwR n1 n2 L lv wv ∧ Cs wv bs cs ∧ Cs wv br cr ∧ Below w0.heap.size w0 wv ∧ k ≤ L.length ∧ OwK k n2 L lv wv
theorem CpW.put {n1 n2 g k c bs br : Nat} {L : List (List Int)} {cs cr : Array Value} {w0 wv : World} {u : Value} {x : List Int} (h : CpW k n1 n2 L (.slice (some ⟨g, 0, none⟩) L.length c) bs br cs cr w0 wv) (hk : k < L.length) (hx : L.getD k [] = x) (hg : n2 ≤ g) (hs : bs < n2) (hr : br < n2) (hw : w0.heap.size ≤ n2)
    (hu : IntsAt wv u x) (ha : x ≠ [] → ∀ b off n c, u = .slice (some ⟨b, off, none⟩) n c → (n2 ≤ b ∧ tyB wv b = some 3) ∧ b ≠ g) : CpW (k + 1) n1 n2 L (.slice (some ⟨g, 0, none⟩) L.length c) bs br cs cr w0 (wv.setCell ⟨g, k, none⟩ u) := by
  obtain ⟨h1, h2, h3, h4, -, h6⟩ := h
  have hc0 : ∃ v, wv.cell? ⟨g, k, none⟩ = some v := by
    obtain ⟨a, c2, e2, hm, h⟩ := h1
    obtain ⟨g2, e3, -, -, h5⟩ := h (by intro q; rw [q] at hk; simp at hk)
    obtain rfl : g = g2 := by simp at e2; rw [e3] at e2; simpa using e2.1
    obtain ⟨-, v, hv, -⟩ := h5 k hk
    exact ⟨v, hv⟩
  have h5 := h1.put hk hu fun q b off n c e => ⟨.inr (ha q b off n c e).1, (ha q b off n c e).2⟩
  rw [← hx, set_self hk] at h5
  refine ⟨h5, Cs.other h2 (by omega) k u, Cs.other h3 (by omega) k u, h4.setCell (p := ⟨g, k, none⟩) (by show w0.heap.size ≤ g; omega) u, hk, fun i hi hx2 g2 n c2 e b off n' c' hc => ?_⟩
  obtain rfl : g = g2 := by simp at e; exact e.1
  rw [tyB_set]
  by_cases e9 : k = i
  · subst e9
    obtain ⟨v, hv⟩ := hc0
    rw [World.cell?_setCell_same _ _ _ hv] at hc
    exact (ha (hx ▸ hx2) b off n' c' (by simpa using hc)).1
  · rw [World.cell?_setCell_other _ _ _ _ (by intro h2; injection h2 with _ h3; exact e9 h3)] at hc
    exact h6 i (by omega) hx2 g _ _ rfl b off n' c' hc
theorem CpW.step {k n1 n2 bs br : Nat} {L : List (List Int)} {lv : Value} {cs cr : Array Value} {w0 wv w' : World} (h : CpW k n1 n2 L lv bs br cs cr w0 wv) (hb : Below wv.heap.size wv w') : CpW k n1 n2 L lv bs br cs cr w0 w' :=
  ⟨h.1.step hb, h.2.1.step hb, h.2.2.1.step hb, keep2 hb h.2.2.2.1, h.2.2.2.2.1, h.2.2.2.2.2.step h.1 h.2.2.2.2.1 hb⟩
theorem OwR.at {n1 n2 : Nat} {L : List (List Int)} {ua : Option Addr} {n uc : Nat} {w : World} (h : OwR n1 n2 L (.slice ua n uc) w) {k : Nat} (hk : k < L.length) : ∃ g, ua = some ⟨g, 0, none⟩ ∧ n2 ≤ g ∧ g < w.heap.size ∧ w.frozen? ⟨g, k, none⟩ = false ∧ ∃ ya yc, w.cell? ⟨g, k, none⟩ = some (.slice ya (L.getD k []).length yc) ∧ IntsAt w (.slice ya (L.getD k []).length yc) (L.getD k []) := by
  obtain ⟨a, c, e, -, h⟩ := h
  obtain ⟨g, e1, h2, h3, h4⟩ := h (by intro q; rw [q] at hk; simp at hk)
  obtain ⟨f, u, hu, hi, -⟩ := h4 k hk
  obtain ⟨ya, yc, rfl, q1, q2⟩ := hi
  have : ua = a := by simp at e; exact e.1
  exact ⟨g, this.trans e1, h2, h3, f, ya, yc, hu, ya, yc, rfl, q1, q2⟩
set_option maxRecDepth 100000 in
set_option maxHeartbeats 8000000 in
theorem copied_any (m : Mf) (v : Value) (L : List (List Int)) (w0 w : World) (hb0 : Below w0.heap.size w0 w) (h : RowsAt w0 v L) (h9 : L.length ≤ 1000) (h8 : ∀ x ∈ L, x.length ≤ 1000) :
    Calls Try.prog 50 #[.agg #[.int .i64 m.v, .int .i64 m.c, .int .i64 m.s, .int .i64 m.r, .int .i64 m.t, v]] w fun e w' => ∃ u, e = .returned (.agg #[.int .i64 m.v, .int .i64 m.c, .int .i64 m.s, .int .i64 m.r, .int .i64 m.t, u]) ∧ OwR 0 (w.heap.size + 2) L u w' ∧ Below w.heap.size w w' := by
  have HL := Lib.hid h
  have HB0 := Lib.hid hb0
  have H8 := Lib.hid h8
  obtain ⟨va, vc, rfl, -, -⟩ := h
  clear hb0 h8
  have H0 := Lib.hid (Below.refl w.heap.size w)
  have H1 := Lib.hid (keep2 (al w (.cells #[.int .i64 m.v, .int .i64 m.c, .int .i64 m.s, .int .i64 m.r, .int .i64 m.t, .slice va L.length vc] 27)) H0.out)
  clear H0
  have H2 := Lib.hid (Cs.new w (w.heap.size) #[.int .i64 m.v, .int .i64 m.c, .int .i64 m.s, .int .i64 m.r, .int .i64 m.t, .slice va L.length vc] 27 (by simp))
  have H3 := Lib.hid (H2.out.step (al (w.alloc (.cells #[.int .i64 m.v, .int .i64 m.c, .int .i64 m.s, .int .i64 m.r, .int .i64 m.t, .slice va L.length vc] 27)) (.cells #[.int .i64 0, .int .i64 0, .int .i64 0, .int .i64 0, .int .i64 0, .slice none 0 0] 27)))
  clear H2
  have H4 := Lib.hid (keep2 (al (w.alloc (.cells #[.int .i64 m.v, .int .i64 m.c, .int .i64 m.s, .int .i64 m.r, .int .i64 m.t, .slice va L.length vc] 27)) (.cells #[.int .i64 0, .int .i64 0, .int .i64 0, .int .i64 0, .int .i64 0, .slice none 0 0] 27)) H1.out)
  clear H1
  have H5 := Lib.hid (Cs.new (w.alloc (.cells #[.int .i64 m.v, .int .i64 m.c, .int .i64 m.s, .int .i64 m.r, .int .i64 m.t, .slice va L.length vc] 27)) (w.heap.size + 1) #[.int .i64 0, .int .i64 0, .int .i64 0, .int .i64 0, .int .i64 0, .slice none 0 0] 27 (by simp))
  go_enter Try.func50, Try.ntmps50
  have xs0 : ((w.alloc (.cells #[.int .i64 m.v, .int .i64 m.c, .int .i64 m.s, .int .i64 m.r, .int .i64 m.t, .slice va L.length vc] 27)).alloc (.cells #[.int .i64 0, .int .i64 0, .int .i64 0, .int .i64 0, .int .i64 0, .slice none 0 0] 27)).cell? ⟨(w.heap.size), 0, none⟩ = some (.int .i64 m.v) := H3.out.c 0 rfl
  have xs1 : ((w.alloc (.cells #[.int .i64 m.v, .int .i64 m.c, .int .i64 m.s, .int .i64 m.r, .int .i64 m.t, .slice va L.length vc] 27)).alloc (.cells #[.int .i64 0, .int .i64 0, .int .i64 0, .int .i64 0, .int .i64 0, .slice none 0 0] 27)).cell? ⟨(w.heap.size), 1, none⟩ = some (.int .i64 m.c) := H3.out.c 1 rfl
  have xs2 : ((w.alloc (.cells #[.int .i64 m.v, .int .i64 m.c, .int .i64 m.s, .int .i64 m.r, .int .i64 m.t, .slice va L.length vc] 27)).alloc (.cells #[.int .i64 0, .int .i64 0, .int .i64 0, .int .i64 0, .int .i64 0, .slice none 0 0] 27)).cell? ⟨(w.heap.size), 2, none⟩ = some (.int .i64 m.s) := H3.out.c 2 rfl
  have xs3 : ((w.alloc (.cells #[.int .i64 m.v, .int .i64 m.c, .int .i64 m.s, .int .i64 m.r, .int .i64 m.t, .slice va L.length vc] 27)).alloc (.cells #[.int .i64 0, .int .i64 0, .int .i64 0, .int .i64 0, .int .i64 0, .slice none 0 0] 27)).cell? ⟨(w.heap.size), 3, none⟩ = some (.int .i64 m.r) := H3.out.c 3 rfl
  have xs4 : ((w.alloc (.cells #[.int .i64 m.v, .int .i64 m.c, .int .i64 m.s, .int .i64 m.r, .int .i64 m.t, .slice va L.length vc] 27)).alloc (.cells #[.int .i64 0, .int .i64 0, .int .i64 0, .int .i64 0, .int .i64 0, .slice none 0 0] 27)).cell? ⟨(w.heap.size), 4, none⟩ = some (.int .i64 m.t) := H3.out.c 4 rfl
  have xs5 : ((w.alloc (.cells #[.int .i64 m.v, .int .i64 m.c, .int .i64 m.s, .int .i64 m.r, .int .i64 m.t, .slice va L.length vc] 27)).alloc (.cells #[.int .i64 0, .int .i64 0, .int .i64 0, .int .i64 0, .int .i64 0, .slice none 0 0] 27)).cell? ⟨(w.heap.size), 5, none⟩ = some (.slice va L.length vc) := H3.out.c 5 rfl
  have zs : (w.heap.size) < ((w.alloc (.cells #[.int .i64 m.v, .int .i64 m.c, .int .i64 m.s, .int .i64 m.r, .int .i64 m.t, .slice va L.length vc] 27)).alloc (.cells #[.int .i64 0, .int .i64 0, .int .i64 0, .int .i64 0, .int .i64 0, .slice none 0 0] 27)).heap.size := H3.out.2.2
  have xr0 : ((w.alloc (.cells #[.int .i64 m.v, .int .i64 m.c, .int .i64 m.s, .int .i64 m.r, .int .i64 m.t, .slice va L.length vc] 27)).alloc (.cells #[.int .i64 0, .int .i64 0, .int .i64 0, .int .i64 0, .int .i64 0, .slice none 0 0] 27)).cell? ⟨(w.heap.size + 1), 0, none⟩ = some (.int .i64 0) := H5.out.c 0 rfl
  have xr1 : ((w.alloc (.cells #[.int .i64 m.v, .int .i64 m.c, .int .i64 m.s, .int .i64 m.r, .int .i64 m.t, .slice va L.length vc] 27)).alloc (.cells #[.int .i64 0, .int .i64 0, .int .i64 0, .int .i64 0, .int .i64 0, .slice none 0 0] 27)).cell? ⟨(w.heap.size + 1), 1, none⟩ = some (.int .i64 0) := H5.out.c 1 rfl
  have xr2 : ((w.alloc (.cells #[.int .i64 m.v, .int .i64 m.c, .int .i64 m.s, .int .i64 m.r, .int .i64 m.t, .slice va L.length vc] 27)).alloc (.cells #[.int .i64 0, .int .i64 0, .int .i64 0, .int .i64 0, .int .i64 0, .slice none 0 0] 27)).cell? ⟨(w.heap.size + 1), 2, none⟩ = some (.int .i64 0) := H5.out.c 2 rfl
  have xr3 : ((w.alloc (.cells #[.int .i64 m.v, .int .i64 m.c, .int .i64 m.s, .int .i64 m.r, .int .i64 m.t, .slice va L.length vc] 27)).alloc (.cells #[.int .i64 0, .int .i64 0, .int .i64 0, .int .i64 0, .int .i64 0, .slice none 0 0] 27)).cell? ⟨(w.heap.size + 1), 3, none⟩ = some (.int .i64 0) := H5.out.c 3 rfl
  have xr4 : ((w.alloc (.cells #[.int .i64 m.v, .int .i64 m.c, .int .i64 m.s, .int .i64 m.r, .int .i64 m.t, .slice va L.length vc] 27)).alloc (.cells #[.int .i64 0, .int .i64 0, .int .i64 0, .int .i64 0, .int .i64 0, .slice none 0 0] 27)).cell? ⟨(w.heap.size + 1), 4, none⟩ = some (.int .i64 0) := H5.out.c 4 rfl
  have xr5 : ((w.alloc (.cells #[.int .i64 m.v, .int .i64 m.c, .int .i64 m.s, .int .i64 m.r, .int .i64 m.t, .slice va L.length vc] 27)).alloc (.cells #[.int .i64 0, .int .i64 0, .int .i64 0, .int .i64 0, .int .i64 0, .slice none 0 0] 27)).cell? ⟨(w.heap.size + 1), 5, none⟩ = some (.slice none 0 0) := H5.out.c 5 rfl
  have zr : (w.heap.size + 1) < ((w.alloc (.cells #[.int .i64 m.v, .int .i64 m.c, .int .i64 m.s, .int .i64 m.r, .int .i64 m.t, .slice va L.length vc] 27)).alloc (.cells #[.int .i64 0, .int .i64 0, .int .i64 0, .int .i64 0, .int .i64 0, .slice none 0 0] 27)).heap.size := H5.out.2.2
  go_wp2_with fail
  refine (rclone_any _ L w0 _ (HB0.out.trans (H4.out.mono HB0.out.size)) HL.out (by omega)).mono ?_
  rintro e u1 ⟨u, rfl, hu, b1⟩
  clear xs0 xs1 xs2 xs3 xs4 xs5 zs xr0 xr1 xr2 xr3 xr4 xr5 zr
  have H6 := Lib.hid (H3.out.step b1)
  clear H3
  have H7 := Lib.hid (H5.out.step b1)
  clear H5
  have H8 := Lib.hid (keep2 b1 H4.out)
  clear H4
  clear b1
  rw [show ((w.alloc (.cells #[.int .i64 m.v, .int .i64 m.c, .int .i64 m.s, .int .i64 m.r, .int .i64 m.t, .slice va L.length vc] 27)).alloc (.cells #[.int .i64 0, .int .i64 0, .int .i64 0, .int .i64 0, .int .i64 0, .slice none 0 0] 27)).heap.size = w.heap.size + 2 by simp] at hu
  obtain ⟨ua, uc, rfl, -, -⟩ : ∃ (a : Option Addr) (c : Nat), u = .slice a L.length c ∧ True ∧ True := by
    obtain ⟨a, c, e, -⟩ := hu
    exact ⟨a, c, e, trivial, trivial⟩
  have H9 := Lib.hid (hu)
  clear hu
  have HS1 := HB0.out.size
  have xs0 : u1.cell? ⟨(w.heap.size), 0, none⟩ = some (.int .i64 m.v) := H6.out.c 0 rfl
  have xs1 : u1.cell? ⟨(w.heap.size), 1, none⟩ = some (.int .i64 m.c) := H6.out.c 1 rfl
  have xs2 : u1.cell? ⟨(w.heap.size), 2, none⟩ = some (.int .i64 m.s) := H6.out.c 2 rfl
  have xs3 : u1.cell? ⟨(w.heap.size), 3, none⟩ = some (.int .i64 m.r) := H6.out.c 3 rfl
  have xs4 : u1.cell? ⟨(w.heap.size), 4, none⟩ = some (.int .i64 m.t) := H6.out.c 4 rfl
  have xs5 : u1.cell? ⟨(w.heap.size), 5, none⟩ = some (.slice va L.length vc) := H6.out.c 5 rfl
  have zs : (w.heap.size) < u1.heap.size := H6.out.2.2
  have xr0 : u1.cell? ⟨(w.heap.size + 1), 0, none⟩ = some (.int .i64 0) := H7.out.c 0 rfl
  have xr1 : u1.cell? ⟨(w.heap.size + 1), 1, none⟩ = some (.int .i64 0) := H7.out.c 1 rfl
  have xr2 : u1.cell? ⟨(w.heap.size + 1), 2, none⟩ = some (.int .i64 0) := H7.out.c 2 rfl
  have xr3 : u1.cell? ⟨(w.heap.size + 1), 3, none⟩ = some (.int .i64 0) := H7.out.c 3 rfl
  have xr4 : u1.cell? ⟨(w.heap.size + 1), 4, none⟩ = some (.int .i64 0) := H7.out.c 4 rfl
  have xr5 : u1.cell? ⟨(w.heap.size + 1), 5, none⟩ = some (.slice none 0 0) := H7.out.c 5 rfl
  have zr : (w.heap.size + 1) < u1.heap.size := H7.out.2.2
  have fs5 : u1.frozen? ⟨(w.heap.size), 5, none⟩ = false := H6.out.f 5 (by simp)
  go_upto_region 2 with fail
  clear xs0 xs1 xs2 xs3 xs4 xs5 zs xr0 xr1 xr2 xr3 xr4 xr5 zr fs5
  have H10 := Lib.hid (Cs.set H6.out 5 (by simp) (.slice ua L.length uc) (vs' := #[.int .i64 m.v, .int .i64 m.c, .int .i64 m.s, .int .i64 m.r, .int .i64 m.t, .slice ua L.length uc]) rfl)
  clear H6
  have H11 := Lib.hid (Cs.other H7.out (show (w.heap.size + 1) ≠ (w.heap.size) by omega) 5 (.slice ua L.length uc))
  clear H7
  have H12 := Lib.hid (OwR.set (B := (w.heap.size)) H9.out (by omega) (by omega) 5 (.slice ua L.length uc))
  clear H9
  have H13 := Lib.hid (H8.out.setCell (p := ⟨(w.heap.size), 5, none⟩) (show w.heap.size ≤ (w.heap.size) by omega) (.slice ua L.length uc))
  clear H8
  obtain ⟨W2, hW2⟩ : ∃ z9, (u1.setCell ⟨(w.heap.size), 5, none⟩ (.slice ua L.length uc)) = z9 := ⟨_, rfl⟩
  have W2S : W2.heap.size = u1.heap.size := by rw [← hW2]; simp
  rw [hW2] at H10 H11 H12 H13 ⊢
  clear hW2
  have xs0 : W2.cell? ⟨(w.heap.size), 0, none⟩ = some (.int .i64 m.v) := H10.out.c 0 rfl
  have xs1 : W2.cell? ⟨(w.heap.size), 1, none⟩ = some (.int .i64 m.c) := H10.out.c 1 rfl
  have xs2 : W2.cell? ⟨(w.heap.size), 2, none⟩ = some (.int .i64 m.s) := H10.out.c 2 rfl
  have xs3 : W2.cell? ⟨(w.heap.size), 3, none⟩ = some (.int .i64 m.r) := H10.out.c 3 rfl
  have xs4 : W2.cell? ⟨(w.heap.size), 4, none⟩ = some (.int .i64 m.t) := H10.out.c 4 rfl
  have xs5 : W2.cell? ⟨(w.heap.size), 5, none⟩ = some (.slice ua L.length uc) := H10.out.c 5 rfl
  have zs : (w.heap.size) < W2.heap.size := H10.out.2.2
  go_wp2_with fail
  clear xs0 xs1 xs2 xs3 xs4 xs5 zs
  have HC := Lib.hid (show CpW 0 w0.heap.size (w.heap.size + 2) L (.slice ua L.length uc) (w.heap.size) (w.heap.size + 1) #[.int .i64 m.v, .int .i64 m.c, .int .i64 m.s, .int .i64 m.r, .int .i64 m.t, .slice ua L.length uc] #[.int .i64 0, .int .i64 0, .int .i64 0, .int .i64 0, .int .i64 0, .slice none 0 0] w W2 from ⟨H12.out, H10.out, H11.out, H13.out, by omega, fun i hi => absurd hi (by omega)⟩)
  clear H12 H10 H11 H13 W2S HS1
  go_loopw [12] (fun iv wr => ∃ k : Nat, k ≤ L.length ∧ iv = .int .i64 (k : Int) ∧ Hid (CpW k w0.heap.size (w.heap.size + 2) L (.slice ua L.length uc) (w.heap.size) (w.heap.size + 1) #[.int .i64 m.v, .int .i64 m.c, .int .i64 m.s, .int .i64 m.r, .int .i64 m.t, .slice ua L.length uc] #[.int .i64 0, .int .i64 0, .int .i64 0, .int .i64 0, .int .i64 0, .slice none 0 0] w wr)) (fun iv _ => L.length - (intOf iv).toNat)
  case atStart => exact ⟨0, by omega, rfl, HC⟩
  case round =>
    obtain ⟨k, hk, rfl, HW⟩ := hrel
    clear HC
    by_cases hlt : k < L.length
    rotate_left
    · skip
      obtain rfl : k = L.length := by omega
      have t1 : ¬ (L.length : Int) < (L.length : Int) := by omega
      clear hlt hk
      have HWo := Lib.hid (HW.out.1.strong HW.out.2.2.2.2.2)
      have HWs := Lib.hid HW.out.2.1
      have HWr := Lib.hid HW.out.2.2.1
      have HWb := Lib.hid HW.out.2.2.2.1
      clear HW
      have HS1 := HB0.out.size
      have xs0 : wr.cell? ⟨(w.heap.size), 0, none⟩ = some (.int .i64 m.v) := HWs.out.c 0 rfl
      have xs1 : wr.cell? ⟨(w.heap.size), 1, none⟩ = some (.int .i64 m.c) := HWs.out.c 1 rfl
      have xs2 : wr.cell? ⟨(w.heap.size), 2, none⟩ = some (.int .i64 m.s) := HWs.out.c 2 rfl
      have xs3 : wr.cell? ⟨(w.heap.size), 3, none⟩ = some (.int .i64 m.r) := HWs.out.c 3 rfl
      have xs4 : wr.cell? ⟨(w.heap.size), 4, none⟩ = some (.int .i64 m.t) := HWs.out.c 4 rfl
      have xs5 : wr.cell? ⟨(w.heap.size), 5, none⟩ = some (.slice ua L.length uc) := HWs.out.c 5 rfl
      have zs : (w.heap.size) < wr.heap.size := HWs.out.2.2
      have xr0 : wr.cell? ⟨(w.heap.size + 1), 0, none⟩ = some (.int .i64 0) := HWr.out.c 0 rfl
      have xr1 : wr.cell? ⟨(w.heap.size + 1), 1, none⟩ = some (.int .i64 0) := HWr.out.c 1 rfl
      have xr2 : wr.cell? ⟨(w.heap.size + 1), 2, none⟩ = some (.int .i64 0) := HWr.out.c 2 rfl
      have xr3 : wr.cell? ⟨(w.heap.size + 1), 3, none⟩ = some (.int .i64 0) := HWr.out.c 3 rfl
      have xr4 : wr.cell? ⟨(w.heap.size + 1), 4, none⟩ = some (.int .i64 0) := HWr.out.c 4 rfl
      have xr5 : wr.cell? ⟨(w.heap.size + 1), 5, none⟩ = some (.slice none 0 0) := HWr.out.c 5 rfl
      have zr : (w.heap.size + 1) < wr.heap.size := HWr.out.2.2
      have fr0 : wr.frozen? ⟨(w.heap.size + 1), 0, none⟩ = false := HWr.out.f 0 (by simp)
      have fr1 : wr.frozen? ⟨(w.heap.size + 1), 1, none⟩ = false := HWr.out.f 1 (by simp)
      have fr2 : wr.frozen? ⟨(w.heap.size + 1), 2, none⟩ = false := HWr.out.f 2 (by simp)
      have fr3 : wr.frozen? ⟨(w.heap.size + 1), 3, none⟩ = false := HWr.out.f 3 (by simp)
      have fr4 : wr.frozen? ⟨(w.heap.size + 1), 4, none⟩ = false := HWr.out.f 4 (by simp)
      have fr5 : wr.frozen? ⟨(w.heap.size + 1), 5, none⟩ = false := HWr.out.f 5 (by simp)
      have HLE := Lib.hid (show w.heap.size ≤ (w.heap.size + 1) from by omega)
      have q90 := Lib.hid (Cs.set HWr.out 0 (by simp) (.int .i64 m.v) (vs' := #[.int .i64 m.v, .int .i64 0, .int .i64 0, .int .i64 0, .int .i64 0, .slice none 0 0]) rfl)
      have q91 := Lib.hid (Cs.set q90.out 1 (by simp) (.int .i64 m.c) (vs' := #[.int .i64 m.v, .int .i64 m.c, .int .i64 0, .int .i64 0, .int .i64 0, .slice none 0 0]) rfl)
      have q92 := Lib.hid (Cs.set q91.out 2 (by simp) (.int .i64 m.s) (vs' := #[.int .i64 m.v, .int .i64 m.c, .int .i64 m.s, .int .i64 0, .int .i64 0, .slice none 0 0]) rfl)
      have q93 := Lib.hid (Cs.set q92.out 3 (by simp) (.int .i64 m.r) (vs' := #[.int .i64 m.v, .int .i64 m.c, .int .i64 m.s, .int .i64 m.r, .int .i64 0, .slice none 0 0]) rfl)
      have q94 := Lib.hid (Cs.set q93.out 4 (by simp) (.int .i64 m.t) (vs' := #[.int .i64 m.v, .int .i64 m.c, .int .i64 m.s, .int .i64 m.r, .int .i64 m.t, .slice none 0 0]) rfl)
      have q95 := Lib.hid (Cs.set q94.out 5 (by simp) (.slice ua L.length uc) (vs' := #[.int .i64 m.v, .int .i64 m.c, .int .i64 m.s, .int .i64 m.r, .int .i64 m.t, .slice ua L.length uc]) rfl)
      clear q90 q91 q92 q93 q94
      go_wp2
      have hC := q95.out
      have hB := ((((((HWb.out.setCell (p := ⟨(w.heap.size + 1), 0, none⟩) HLE.out (.int .i64 m.v)).setCell (p := ⟨(w.heap.size + 1), 1, none⟩) HLE.out (.int .i64 m.c)).setCell (p := ⟨(w.heap.size + 1), 2, none⟩) HLE.out (.int .i64 m.s)).setCell (p := ⟨(w.heap.size + 1), 3, none⟩) HLE.out (.int .i64 m.r)).setCell (p := ⟨(w.heap.size + 1), 4, none⟩) HLE.out (.int .i64 m.t)).setCell (p := ⟨(w.heap.size + 1), 5, none⟩) HLE.out (.slice ua L.length uc))
      have hX := (OwR.set (B := (w.heap.size + 1)) (OwR.set (B := (w.heap.size + 1)) (OwR.set (B := (w.heap.size + 1)) (OwR.set (B := (w.heap.size + 1)) (OwR.set (B := (w.heap.size + 1)) (OwR.set (B := (w.heap.size + 1)) HWo.out (by omega) (by omega) 0 (.int .i64 m.v)) (by omega) (by omega) 1 (.int .i64 m.c)) (by omega) (by omega) 2 (.int .i64 m.s)) (by omega) (by omega) 3 (.int .i64 m.r)) (by omega) (by omega) 4 (.int .i64 m.t)) (by omega) (by omega) 5 (.slice ua L.length uc))
      obtain ⟨V9, hV9⟩ : ∃ z9, ((((((wr.setCell ⟨(w.heap.size + 1), 0, none⟩ (.int .i64 m.v)).setCell ⟨(w.heap.size + 1), 1, none⟩ (.int .i64 m.c)).setCell ⟨(w.heap.size + 1), 2, none⟩ (.int .i64 m.s)).setCell ⟨(w.heap.size + 1), 3, none⟩ (.int .i64 m.r)).setCell ⟨(w.heap.size + 1), 4, none⟩ (.int .i64 m.t)).setCell ⟨(w.heap.size + 1), 5, none⟩ (.slice ua L.length uc)) = z9 := ⟨_, rfl⟩
      rw [hV9] at hC hB hX ⊢
      clear hV9
      have k0 : V9.cell? ⟨(w.heap.size + 1), 0, none⟩ = some (.int .i64 m.v) := hC.c 0 rfl
      have k1 : V9.cell? ⟨(w.heap.size + 1), 1, none⟩ = some (.int .i64 m.c) := hC.c 1 rfl
      have k2 : V9.cell? ⟨(w.heap.size + 1), 2, none⟩ = some (.int .i64 m.s) := hC.c 2 rfl
      have k3 : V9.cell? ⟨(w.heap.size + 1), 3, none⟩ = some (.int .i64 m.r) := hC.c 3 rfl
      have k4 : V9.cell? ⟨(w.heap.size + 1), 4, none⟩ = some (.int .i64 m.t) := hC.c 4 rfl
      have k5 : V9.cell? ⟨(w.heap.size + 1), 5, none⟩ = some (.slice ua L.length uc) := hC.c 5 rfl
      exact bodyPost_ret (v := .agg #[.int .i64 m.v, .int .i64 m.c, .int .i64 m.s, .int .i64 m.r, .int .i64 m.t, .slice ua L.length uc]) (by simp [results, Try.results50, go_sem, k0, k1, k2, k3, k4, k5]) rfl (⟨_, rfl, hX, hB⟩)
    have HIL := Lib.hid hlt
    have h8 := H8.out _ (getD_memL hlt)
    obtain ⟨g, rfl, hg, hgs, f0, ya, yc, x0, hy⟩ := HW.out.1.at hlt
    have HY := Lib.hid hy
    have HGN := Lib.hid hg
    have xs := HW.out.2.1.c 5 rfl
    have xz := HW.out.2.1.2.2
    have t1 : (k : Int) < (L.length : Int) := by omega
    obtain ⟨x, hx⟩ : ∃ z9, L.getD k [] = z9 := ⟨_, rfl⟩
    have HXX := Lib.hid hx
    rw [hx] at x0 HY h8
    have HX8 := Lib.hid h8
    clear hx hy h8 hg
    go_upto_region 5 with fail
    clear x0 f0 hgs xs xz t1
    have HGS := Lib.hid (show g < wr.heap.size ∧ (w.heap.size + 2) ≤ wr.heap.size from by
      obtain ⟨g2, hg2, -, hgs, -⟩ := HW.out.1.at HIL.out
      obtain rfl : g = g2 := by simpa using hg2
      have := HGN.out
      exact ⟨hgs, by omega⟩)
    obtain ⟨lit, hlit⟩ : ∃ lit : (Nat → Value) → Act, lit = fun vs => { tmps := List.toArray (Value.agg #[Value.int IntKind.i64 m.v, Value.int IntKind.i64 m.c, Value.int IntKind.i64 m.s, Value.int IntKind.i64 m.r, Value.int IntKind.i64 m.t, Value.slice va L.length vc] :: Value.pointer (some { block := w.heap.size, off := 0 }) :: Value.pointer (some { block := w.heap.size + 1, off := 0 }) :: Value.int IntKind.i64 (k : Int) :: Value.slice ya x.length yc :: Value.pointer (some { block := w.heap.size, off := 5 }) :: Value.slice va L.length vc :: Value.slice (some { block := g, off := 0 }) L.length uc :: Value.pointer (some { block := w.heap.size, off := 5 }) :: Value.pointer (some { block := w.heap.size, off := 5 }) :: Value.slice (some { block := g, off := 0 }) L.length uc :: Value.int IntKind.i64 (L.length : Int) :: Value.int IntKind.i64 (k : Int) :: Value.bool true :: Value.int IntKind.i64 (k : Int) :: Value.pointer (some { block := g, off := k }) :: Value.slice ya x.length yc :: vs 0 :: vs 1 :: vs 2 :: vs 3 :: vs 4 :: vs 5 :: u23 :: undef :: []), defers := [] } := ⟨_, rfl⟩
    have HLIT := Lib.hid hlit
    clear hlit
    obtain ⟨val, hval⟩ : ∃ val : List Value, val = [.pointer (some ⟨(w.heap.size), 5, none⟩), .slice (some ⟨g, 0, none⟩) L.length uc, .int .i64 (k : Int), .slice ya x.length yc, undef, .pointer (some ⟨g, k, none⟩), undef] := ⟨_, rfl⟩
    have E0 := Lib.hid (show val.getD 0 undef = .pointer (some ⟨(w.heap.size), 5, none⟩) by rw [hval]; rfl)
    have E1 := Lib.hid (show val.getD 1 undef = .slice (some ⟨g, 0, none⟩) L.length uc by rw [hval]; rfl)
    have E2 := Lib.hid (show val.getD 2 undef = .int .i64 (k : Int) by rw [hval]; rfl)
    have E3 := Lib.hid (show val.getD 3 undef = .slice ya x.length yc by rw [hval]; rfl)
    have E5 := Lib.hid (show val.getD 5 undef = .pointer (some ⟨g, k, none⟩) by rw [hval]; rfl)
    clear hval
    obtain ⟨G, hG0⟩ : ∃ G : Bool → Nat → Value → World → Prop, G = (fun bq iq vq ww => (iq = 4 → QcL wr.heap.size x bq vq ww) ∧ (iq ≠ 4 → iq ≠ 6 → vq = val.getD iq undef)) := ⟨_, rfl⟩
    have HG := Lib.hid hG0
    clear hG0
    refine region_inv (NS lit 6 (fun p q => (p == 6 && q == 0) || (p == 6 && q == 1) || (p == 6 && q == 2) || (p == 6 && q == 3) || (p == 6 && q == 4) || (p == 6 && q == 5)) G fun bq wv => (bq = false → Below wr.heap.size wr wv) ∧ (bq = true → CpW (k + 1) w0.heap.size (w.heap.size + 2) L (.slice (some ⟨g, 0, none⟩) L.length uc) (w.heap.size) (w.heap.size + 1) #[.int .i64 m.v, .int .i64 m.c, .int .i64 m.s, .int .i64 m.r, .int .i64 m.t, .slice (some ⟨g, 0, none⟩) L.length uc] #[.int .i64 0, .int .i64 0, .int .i64 0, .int .i64 0, .int .i64 0, .slice none 0 0] w wv)) (by kernel_rfl) (by decide +kernel) ?_ ?_ ?_
    · exact NS.start (fun i => ([u17, u18, u19, u20, u21, u22, undef] : List Value).getD i undef) (by rw [HLIT.out]; rfl) ⟨fun _ => below_drew _ _, fun h => (by cases h)⟩
    · refine ⟨?_, ?_, ?_, ?_, ?_, ?_, ?_, trivial⟩
      · intro bf ac wv hfb haf hJ K' hK
        obtain ⟨vs, rfl, ja, hB, j4⟩ := hJ
        replace hK := Lib.hid hK
        rw [HG.out] at j4
        replace j4 := Lib.hid (And.intro ja j4)
        replace hB := Lib.hid hB
        clear ja haf
        rw [HLIT.out]
        go_simp
        exact hK.out _ _ (NS.next (wv := wv) (vs := vs) 0 (by omega) (fun q h => absurd h (by simp)) (x := .pointer (some ⟨(w.heap.size), 5, none⟩)) (by rw [HLIT.out]; rfl) (by rw [HG.out]; exact j4.out) hB.out (by rw [HG.out]; exact fun _ _ h => h) (by rw [HG.out]; exact ⟨fun h => absurd h (by decide), fun _ _ => E0.out.symm⟩))
      · intro bf ac wv hfb haf hJ K' hK
        obtain ⟨vs, rfl, ja, hB, j4⟩ := hJ
        replace hK := Lib.hid hK
        simp [Region.binds] at haf
        rw [HG.out] at j4
        have e0 := ((j4 0 (by simp [haf])).2 (by decide) (by decide)).trans E0.out
        have hd : bf 6 = false := by
          cases h : bf 6
          · rfl
          · exact absurd ((ja 6 1 rfl h).symm.trans hfb) (by simp)
        have hM := Lib.hid (hB.1 hd)
        replace j4 := Lib.hid (And.intro ja j4)
        replace hB := Lib.hid hB
        clear ja haf
        have y5 := (HW.out.2.1.step hM.out).c 5 rfl
        have yz := (HW.out.2.1.step hM.out).2.2
        rw [HLIT.out]
        go_simp
        exact hK.out _ _ (NS.next (wv := wv) (vs := vs) 1 (by omega) (fun q h => absurd h (by simp)) (x := .slice (some ⟨g, 0, none⟩) L.length uc) (by rw [HLIT.out]; simp only [upv, e0, Nat.reduceBEq, cond_true, cond_false]) (by rw [HG.out]; exact j4.out) hB.out (by rw [HG.out]; exact fun _ _ h => h) (by rw [HG.out]; exact ⟨fun h => absurd h (by decide), fun _ _ => E1.out.symm⟩))
      · intro bf ac wv hfb haf hJ K' hK
        obtain ⟨vs, rfl, ja, hB, j4⟩ := hJ
        replace hK := Lib.hid hK
        rw [HG.out] at j4
        replace j4 := Lib.hid (And.intro ja j4)
        replace hB := Lib.hid hB
        clear ja haf
        rw [HLIT.out]
        go_simp
        exact hK.out _ _ (NS.next (wv := wv) (vs := vs) 2 (by omega) (fun q h => absurd h (by simp)) (x := .int .i64 (k : Int)) (by rw [HLIT.out]; rfl) (by rw [HG.out]; exact j4.out) hB.out (by rw [HG.out]; exact fun _ _ h => h) (by rw [HG.out]; exact ⟨fun h => absurd h (by decide), fun _ _ => E2.out.symm⟩))
      · intro bf ac wv hfb haf hJ K' hK
        obtain ⟨vs, rfl, ja, hB, j4⟩ := hJ
        replace hK := Lib.hid hK
        rw [HG.out] at j4
        replace j4 := Lib.hid (And.intro ja j4)
        replace hB := Lib.hid hB
        clear ja haf
        rw [HLIT.out]
        go_simp
        exact hK.out _ _ (NS.next (wv := wv) (vs := vs) 3 (by omega) (fun q h => absurd h (by simp)) (x := .slice ya x.length yc) (by rw [HLIT.out]; rfl) (by rw [HG.out]; exact j4.out) hB.out (by rw [HG.out]; exact fun _ _ h => h) (by rw [HG.out]; exact ⟨fun h => absurd h (by decide), fun _ _ => E3.out.symm⟩))
      · intro bf ac wv hfb haf hJ K' hK
        obtain ⟨vs, rfl, ja, hB, j4⟩ := hJ
        replace hK := Lib.hid hK
        simp [Region.binds] at haf
        rw [HG.out] at j4
        have e3 := ((j4 3 (by simp [haf])).2 (by decide) (by decide)).trans E3.out
        have hd : bf 6 = false := by
          cases h : bf 6
          · rfl
          · exact absurd ((ja 6 4 rfl h).symm.trans hfb) (by simp)
        have hM := Lib.hid (hB.1 hd)
        replace j4 := Lib.hid (And.intro ja j4)
        replace hB := Lib.hid hB
        clear ja haf
        rw [HLIT.out]
        go_simp
        go_at_call 36
        refine (in_clone _ x _ (HY.out.step hM.out) (by have := HX8.out; omega)).mono ?_
        rintro e w4 ⟨u4, rfl, hu4, b4⟩
        obtain ⟨ca, cc, e4, hq4⟩ := qc_of hu4 hM.out.size
        subst e4
        exact hK.out _ _ (NS.next (wv := wv) (vs := vs) 4 (by omega) (fun q h => absurd h (by simp)) (x := .slice ca x.length cc) (by rw [HLIT.out]; simp only [upv, e3, Nat.reduceBEq, cond_true, cond_false]) (by rw [HG.out]; exact j4.out) ⟨fun _ => keep2 b4 hM.out, fun e => absurd (e.symm.trans hd) (by simp)⟩ (by rw [HG.out]; exact fun k hbk h => ⟨fun q => ((h.1 q).step b4), h.2⟩) (by rw [HG.out]; exact ⟨fun _ => (by rw [hd]; exact ⟨ca, cc, rfl, hq4⟩), fun h4 => absurd rfl h4⟩))
      · intro bf ac wv hfb haf hJ K' hK
        obtain ⟨vs, rfl, ja, hB, j4⟩ := hJ
        replace hK := Lib.hid hK
        simp [Region.binds] at haf
        rw [HG.out] at j4
        have e1 := ((j4 1 (by simp [haf])).2 (by decide) (by decide)).trans E1.out
        have e2 := ((j4 2 (by simp [haf])).2 (by decide) (by decide)).trans E2.out
        have hd : bf 6 = false := by
          cases h : bf 6
          · rfl
          · exact absurd ((ja 6 5 rfl h).symm.trans hfb) (by simp)
        have hM := Lib.hid (hB.1 hd)
        replace j4 := Lib.hid (And.intro ja j4)
        replace hB := Lib.hid hB
        clear ja haf
        have hil := HIL.out
        have hil2 : (k : Int) < (L.length : Int) := by omega
        rw [HLIT.out]
        go_simp
        exact hK.out _ _ (NS.next (wv := wv) (vs := vs) 5 (by omega) (fun q h => absurd h (by simp)) (x := .pointer (some ⟨g, k, none⟩)) (by rw [HLIT.out]; simp only [upv, e1, e2, Nat.reduceBEq, cond_true, cond_false]) (by rw [HG.out]; exact j4.out) hB.out (by rw [HG.out]; exact fun _ _ h => h) (by rw [HG.out]; exact ⟨fun h => absurd h (by decide), fun _ _ => E5.out.symm⟩))
      · intro bf ac wv hfb haf hJ K' hK
        obtain ⟨vs, rfl, ja, hB, j4⟩ := hJ
        replace hK := Lib.hid hK
        simp [Region.binds] at haf
        rw [HG.out] at j4
        have e4 := (j4 4 (by simp [haf])).1 rfl
        have e5 := ((j4 5 (by simp [haf])).2 (by decide) (by decide)).trans E5.out
        rw [hfb] at j4 hB
        try rw [hfb] at e4
        have HA := Lib.hid (show ∀ q, (fun p q => (p == 6 && q == 0) || (p == 6 && q == 1) || (p == 6 && q == 2) || (p == 6 && q == 3) || (p == 6 && q == 4) || (p == 6 && q == 5)) 6 q = true → bf q = true from fun q hi => by
          obtain rfl | rfl | rfl | rfl | rfl | rfl : q = 0 ∨ q = 1 ∨ q = 2 ∨ q = 3 ∨ q = 4 ∨ q = 5 := by simpa [or_assoc] using hi
          all_goals simp [haf])
        have hM := Lib.hid (hB.1 rfl)
        replace j4 := Lib.hid j4
        have HE := Lib.hid (And.intro ja HA.out)
        clear ja haf hB HA
        obtain ⟨ca, cc, e4, h4⟩ := e4
        replace h4 := h4 rfl
        rw [e4] at h4
        have hCW := HW.out.step hM.out
        obtain ⟨g2, hg2, hg3, hgs, f0, ya2, yc2, x0, -⟩ := hCW.1.at HIL.out
        obtain rfl : g = g2 := by simpa using hg2
        clear hg2
        rw [HLIT.out]
        go_simp
        have hP := hCW.put (u := .slice ca x.length cc) HIL.out HXX.out HGN.out (by omega) (by omega) (by omega) h4.1 (fun q b off n c e => by
          have := h4.2 q b off n c e
          have h9 := HGS.out
          exact ⟨⟨by omega, this.2⟩, by omega⟩)
        exact hK.out _ _ (NS.put (vs := vs) (w' := wv.setCell ⟨g, k, none⟩ (.slice ca x.length cc)) (by rw [HLIT.out]; simp only [e4, e5]) HE.out ⟨fun e => (by cases e), fun _ => hP⟩ (fun j hj hb => by
          have q := j4.out j hb
          rw [HG.out]
          exact ⟨fun h => (q.1 h).put _, q.2⟩) (fun v => by rw [HG.out]; exact ⟨fun h => absurd h (by decide), fun h4 h6 => absurd rfl h6⟩))
    · intro bf ac wv hall hJ
      obtain ⟨vs, rfl, -, hB, j4⟩ := hJ
      rw [HG.out] at j4
      rw [hall 6 (by decide)] at hB j4
      have hM := Lib.hid (hB.2 rfl)
      clear hB
      have HW9 := Lib.hid hM.out
      clear hM j4 hall
      rw [HLIT.out]
      dsimp only
      clear HLIT HG
      generalize vs = us8
      go_wp2
      go_roundw
      case rel => exact ⟨k + 1, HIL.out, by go_num, HW9⟩
      case measure => have := HIL.out; simp [intOf]; omega
end Go.Proofs.Ytiiehoeoaalbmaa
