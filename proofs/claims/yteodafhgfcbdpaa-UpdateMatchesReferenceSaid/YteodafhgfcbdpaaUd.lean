import Derived.Deep.CutRange
import Derived.Test.YteodafhgfcbdpaaUn
namespace Go.Proofs.Yteodafhgfcbdpaa
open Go.RowKit

/-- A list of numbers made in a region. -/
def QcL (N : Nat) (x : List Int) (b : Bool) (v : Value) (w : World) : Prop := ∃ ca cc, v = .slice ca x.length cc ∧ (b = false → IntsAt w v x ∧ (x ≠ [] → ∀ g off n c, v = .slice (some ⟨g, off, none⟩) n c → N ≤ g ∧ tyB w g = some 3))
theorem QcL.step {N : Nat} {x : List Int} {b : Bool} {v : Value} {w w' : World} (h : QcL N x b v w) (hb : Below w.heap.size w w') : QcL N x b v w' := by
  obtain ⟨ca, cc, e, h⟩ := h
  exact ⟨ca, cc, e, fun q => ⟨(h q).1.step hb, fun hx g off n c e => ⟨((h q).2 hx g off n c e).1, tyB_step ((h q).2 hx g off n c e).2 hb⟩⟩⟩
theorem QcL.put {N : Nat} {x : List Int} {b : Bool} {v : Value} {w : World} (h : QcL N x b v w) (w' : World) : QcL N x true v w' := by
  obtain ⟨ca, cc, e, h⟩ := h
  exact ⟨ca, cc, e, fun q => by cases q⟩
theorem qc_of {N : Nat} {x : List Int} {u : Value} {w : World} (h : w.ownsRow N 3 1 u x.length (x.map (Value.int .i64))) {N' : Nat} (hN : N' ≤ N) : QcL N' x false u w := by
  obtain ⟨ca, cc, rfl⟩ := row_slice h
  refine ⟨ca, cc, rfl, fun _ => ⟨ints_of_row h, fun _ g off n c e => ?_⟩⟩
  have := row_own h (k := g) (by cases e; rfl)
  refine ⟨by omega, ?_⟩
  rcases h.2 with ⟨h1, -⟩ | ⟨g2, cap2, cur, h1, h3, h2, h4⟩
  · rw [h1] at e; cases e
  · rw [h1] at e
    obtain rfl : g2 = g := by simp at e; exact e.1.1
    unfold tyB; rw [h2]; rfl
theorem getD_memL {L : List (List Int)} {k : Nat} (h : k < L.length) : L.getD k [] ∈ L := by simp [h]
/-- The lists before the k-th lie in blocks of their own. -/
def OwK (k n2 : Nat) (L : List (List Int)) (lv : Value) (w : World) : Prop :=
  ∀ i, i < k → L.getD i [] ≠ [] → ∀ g n c, lv = .slice (some ⟨g, 0, none⟩) n c → ∀ b off n c, w.cell? ⟨g, i, none⟩ = some (.slice (some ⟨b, off, none⟩) n c) → n2 ≤ b ∧ tyB w b = some 3
theorem OwK.step {k n1 n2 : Nat} {L : List (List Int)} {lv : Value} {w w' : World} (h : OwK k n2 L lv w) (ho : OwR n1 n2 L lv w) (hk : k ≤ L.length) (hb : Below w.heap.size w w') : OwK k n2 L lv w' := fun i hi hx g n c e b off n' c' hc => by
  obtain ⟨a, c2, e2, hm, h2⟩ := ho
  obtain ⟨g2, e3, h3, h4, -⟩ := h2 (by intro q; rw [q] at hk; simp at hk; omega)
  obtain rfl : g = g2 := by rw [e] at e2; simp at e2; rw [e3] at e2; simpa using e2.1
  rw [hb.cell (p := ⟨g, i, none⟩) h4] at hc
  have := h i hi hx g n c e b off n' c' hc
  exact ⟨this.1, tyB_step this.2 hb⟩
theorem OwR.strong {n1 n2 : Nat} {L : List (List Int)} {lv : Value} {w : World} (h : OwR n1 n2 L lv w) (hk : OwK L.length n2 L lv w) : OwR 0 n2 L lv w := by
  obtain ⟨a, c, e, hm, h⟩ := h
  refine ⟨a, c, e, hm, fun hl => ?_⟩
  obtain ⟨g, e1, h2, h3, h4⟩ := h hl
  refine ⟨g, e1, h2, h3, fun i hi => ?_⟩
  obtain ⟨f, u, hu, hi2, ha⟩ := h4 i hi
  exact ⟨f, u, hu, hi2, fun q b off n c' e' => ⟨.inr (hk i hi q g _ _ (by rw [e, e1]) b off n c' (by rw [hu, e'])), (ha.1 q b off n c' e').2⟩, ha.2⟩
/-- What copying keeps. -/
def CpW (k n1 n2 : Nat) (L : List (List Int)) (lv : Value) (bs br : Nat) (cs cr : Array Value) (w0 wv : World) : Prop := OwR n1 n2 L lv wv ∧ Cs wv bs cs ∧ Cs wv br cr ∧ Below w0.heap.size w0 wv ∧ k ≤ L.length ∧ OwK k n2 L lv wv
theorem CpW.put {n1 n2 g k c bs br : Nat} {L : List (List Int)} {cs cr : Array Value} {w0 wv : World} {u : Value} {x : List Int} (h : CpW k n1 n2 L (.slice (some ⟨g, 0, none⟩) L.length c) bs br cs cr w0 wv) (hk : k < L.length) (hx : L.getD k [] = x) (hg : n2 ≤ g) (hs : bs < n2) (hr : br < n2) (hw : w0.heap.size ≤ n2)
    (hu : IntsAt wv u x) (ha : x ≠ [] → ∀ b off n c, u = .slice (some ⟨b, off, none⟩) n c → (n2 ≤ b ∧ tyB wv b = some 3) ∧ b ≠ g) : CpW (k + 1) n1 n2 L (.slice (some ⟨g, 0, none⟩) L.length c) bs br cs cr w0 (wv.setCell ⟨g, k, none⟩ u) := by
  obtain ⟨h1, h2, h3, h4, -, h6⟩ := h
  have hc0 : ∃ v, wv.cell? ⟨g, k, none⟩ = some v := by
    obtain ⟨a, c2, e2, hm, h⟩ := h1
    obtain ⟨g2, e3, -, -, h5⟩ := h (by intro q; rw [q] at hk; simp at hk)
    obtain rfl : g = g2 := by simp at e2; rw [e3] at e2; simpa using e2.1
    obtain ⟨-, v, hv, -⟩ := h5 k hk
    exact ⟨v, hv⟩
  have h5 := h1.put hk hu fun q b off n c e => ⟨.inr (ha q b off n c e).1, (ha q b off n c e).2⟩
  rw [← hx, set_self hk] at h5
  refine ⟨h5, Cs.other h2 (by omega) k u, Cs.other h3 (by omega) k u, h4.setCell (p := ⟨g, k, none⟩) (by show w0.heap.size ≤ g; omega) u, hk, fun i hi hx2 g2 n c2 e b off n' c' hc => ?_⟩
  obtain rfl : g = g2 := by simp at e; exact e.1
  rw [tyB_set]
  by_cases e9 : k = i
  · subst e9
    obtain ⟨v, hv⟩ := hc0
    rw [World.cell?_setCell_same _ _ _ hv] at hc
    exact (ha (hx ▸ hx2) b off n' c' (by simpa using hc)).1
  · rw [World.cell?_setCell_other _ _ _ _ (by intro h2; injection h2 with _ h3; exact e9 h3)] at hc
    exact h6 i (by omega) hx2 g _ _ rfl b off n' c' hc
theorem CpW.step {k n1 n2 bs br : Nat} {L : List (List Int)} {lv : Value} {cs cr : Array Value} {w0 wv w' : World} (h : CpW k n1 n2 L lv bs br cs cr w0 wv) (hb : Below wv.heap.size wv w') : CpW k n1 n2 L lv bs br cs cr w0 w' :=
  ⟨h.1.step hb, h.2.1.step hb, h.2.2.1.step hb, keep2 hb h.2.2.2.1, h.2.2.2.2.1, h.2.2.2.2.2.step h.1 h.2.2.2.2.1 hb⟩
theorem OwR.at {n1 n2 : Nat} {L : List (List Int)} {ua : Option Addr} {n uc : Nat} {w : World} (h : OwR n1 n2 L (.slice ua n uc) w) {k : Nat} (hk : k < L.length) : ∃ g, ua = some ⟨g, 0, none⟩ ∧ n2 ≤ g ∧ g < w.heap.size ∧ w.frozen? ⟨g, k, none⟩ = false ∧ ∃ ya yc, w.cell? ⟨g, k, none⟩ = some (.slice ya (L.getD k []).length yc) ∧ IntsAt w (.slice ya (L.getD k []).length yc) (L.getD k []) := by
  obtain ⟨a, c, e, -, h⟩ := h
  obtain ⟨g, e1, h2, h3, h4⟩ := h (by intro q; rw [q] at hk; simp at hk)
  obtain ⟨f, u, hu, hi, -⟩ := h4 k hk
  obtain ⟨ya, yc, rfl, q1, q2⟩ := hi
  have : ua = a := by simp at e; exact e.1
  exact ⟨g, this.trans e1, h2, h3, f, ya, yc, hu, ya, yc, rfl, q1, q2⟩
set_option maxRecDepth 100000 in
set_option maxHeartbeats 8000000 in
theorem copied_any (m : Mf) (v : Value) (L : List (List Int)) (w0 w : World) (hb0 : Below w0.heap.size w0 w) (h : RowsAt w0 v L) (h9 : L.length ≤ 1000) (h8 : ∀ x ∈ L, x.length ≤ 1000) :
    Calls Try.prog 50 #[.agg #[.int .i64 m.v, .int .i64 m.c, .int .i64 m.s, .int .i64 m.r, .int .i64 m.t, v]] w fun e w' => ∃ u, e = .returned (.agg #[.int .i64 m.v, .int .i64 m.c, .int .i64 m.s, .int .i64 m.r, .int .i64 m.t, u]) ∧ OwR 0 (w.heap.size + 2) L u w' ∧ Below w.heap.size w w' := by
  have HL := Lib.hid h
  have HB0 := Lib.hid hb0
  have H8 := Lib.hid h8
  obtain ⟨va, vc, rfl, -, -⟩ := h
  clear hb0 h8
  have H0 := Lib.hid (Below.refl w.heap.size w)
  have H1 := Lib.hid (Cs.newB H0.out (w.heap.size) #[.int .i64 m.v, .int .i64 m.c, .int .i64 m.s, .int .i64 m.r, .int .i64 m.t, .slice va L.length vc] 27 (by simp))
  have H2 := Lib.hid (keep2 (al _ (.cells #[.int .i64 m.v, .int .i64 m.c, .int .i64 m.s, .int .i64 m.r, .int .i64 m.t, .slice va L.length vc] 27)) H0.out)
  clear H0
  have H3 := Lib.hid (Cs.newB H2.out (w.heap.size + 1) #[.int .i64 0, .int .i64 0, .int .i64 0, .int .i64 0, .int .i64 0, .slice none 0 0] 27 (by simp))
  have H4 := Lib.hid (H1.out.step (al _ (.cells #[.int .i64 0, .int .i64 0, .int .i64 0, .int .i64 0, .int .i64 0, .slice none 0 0] 27)))
  clear H1
  have H5 := Lib.hid (keep2 (al _ (.cells #[.int .i64 0, .int .i64 0, .int .i64 0, .int .i64 0, .int .i64 0, .slice none 0 0] 27)) H2.out)
  clear H2
  go_enter Try.func50, Try.ntmps50
  have xs0 := H4.out.c 0 rfl
  have xs1 := H4.out.c 1 rfl
  have xs2 := H4.out.c 2 rfl
  have xs3 := H4.out.c 3 rfl
  have xs4 := H4.out.c 4 rfl
  have xs5 := H4.out.c 5 rfl
  have zs := H4.out.2.2
  have xr0 := H3.out.c 0 rfl
  have xr1 := H3.out.c 1 rfl
  have xr2 := H3.out.c 2 rfl
  have xr3 := H3.out.c 3 rfl
  have xr4 := H3.out.c 4 rfl
  have xr5 := H3.out.c 5 rfl
  have zr := H3.out.2.2
  go_wp2_with fail
  refine (rclone_any _ L w0 _ (HB0.out.trans (H5.out.mono HB0.out.size)) HL.out (by omega)).mono ?_
  rintro e u1 ⟨u, rfl, hu, b1⟩
  clear xs0 xs1 xs2 xs3 xs4 xs5 zs xr0 xr1 xr2 xr3 xr4 xr5 zr
  have H6 := Lib.hid (H4.out.step b1)
  clear H4
  have H7 := Lib.hid (H3.out.step b1)
  clear H3
  have H8 := Lib.hid (keep2 b1 H5.out)
  clear H5
  clear b1
  rw [show ((w.alloc (.cells #[.int .i64 m.v, .int .i64 m.c, .int .i64 m.s, .int .i64 m.r, .int .i64 m.t, .slice va L.length vc] 27)).alloc (.cells #[.int .i64 0, .int .i64 0, .int .i64 0, .int .i64 0, .int .i64 0, .slice none 0 0] 27)).heap.size = w.heap.size + 2 by simp] at hu
  obtain ⟨ua, uc, rfl, -, -⟩ : ∃ (a : Option Addr) (c : Nat), u = .slice a L.length c ∧ True ∧ True := by
    obtain ⟨a, c, e, -⟩ := hu
    exact ⟨a, c, e, trivial, trivial⟩
  have H9 := Lib.hid (hu)
  clear hu
  have HS1 := HB0.out.size
  have xs0 := H6.out.c 0 rfl
  have xs1 := H6.out.c 1 rfl
  have xs2 := H6.out.c 2 rfl
  have xs3 := H6.out.c 3 rfl
  have xs4 := H6.out.c 4 rfl
  have xs5 := H6.out.c 5 rfl
  have zs := H6.out.2.2
  have xr0 := H7.out.c 0 rfl
  have xr1 := H7.out.c 1 rfl
  have xr2 := H7.out.c 2 rfl
  have xr3 := H7.out.c 3 rfl
  have xr4 := H7.out.c 4 rfl
  have xr5 := H7.out.c 5 rfl
  have zr := H7.out.2.2
  have fs5 := H6.out.f 5 (by simp)
  go_upto_region 2 with fail
  clear xs0 xs1 xs2 xs3 xs4 xs5 zs xr0 xr1 xr2 xr3 xr4 xr5 zr fs5
  have H10 := Lib.hid (Cs.set H6.out 5 (by simp) (.slice ua L.length uc) (vs' := #[.int .i64 m.v, .int .i64 m.c, .int .i64 m.s, .int .i64 m.r, .int .i64 m.t, .slice ua L.length uc]) rfl)
  clear H6
  have H11 := Lib.hid (Cs.other H7.out (show (w.heap.size + 1) ≠ (w.heap.size) by omega) 5 (.slice ua L.length uc))
  clear H7
  have H12 := Lib.hid (OwR.set (B := (w.heap.size)) H9.out (by omega) (by omega) 5 (.slice ua L.length uc))
  clear H9
  have H13 := Lib.hid (H8.out.setCell (p := ⟨(w.heap.size), 5, none⟩) (show w.heap.size ≤ (w.heap.size) by omega) (.slice ua L.length uc))
  clear H8
  obtain ⟨W2, hW2⟩ : ∃ z9, (u1.setCell ⟨(w.heap.size), 5, none⟩ (.slice ua L.length uc)) = z9 := ⟨_, rfl⟩
  have W2S : W2.heap.size = u1.heap.size := by rw [← hW2]; simp
  rw [hW2] at H10 H11 H12 H13 ⊢
  clear hW2
  have xs0 := H10.out.c 0 rfl
  have xs1 := H10.out.c 1 rfl
  have xs2 := H10.out.c 2 rfl
  have xs3 := H10.out.c 3 rfl
  have xs4 := H10.out.c 4 rfl
  have xs5 := H10.out.c 5 rfl
  have zs := H10.out.2.2
  go_wp2_with fail
  clear xs0 xs1 xs2 xs3 xs4 xs5 zs
  have HC := Lib.hid (show CpW 0 w0.heap.size (w.heap.size + 2) L (.slice ua L.length uc) (w.heap.size) (w.heap.size + 1) #[.int .i64 m.v, .int .i64 m.c, .int .i64 m.s, .int .i64 m.r, .int .i64 m.t, .slice ua L.length uc] #[.int .i64 0, .int .i64 0, .int .i64 0, .int .i64 0, .int .i64 0, .slice none 0 0] w W2 from ⟨H12.out, H10.out, H11.out, H13.out, by omega, fun i hi => absurd hi (by omega)⟩)
  clear H12 H10 H11 H13 W2S HS1
  go_loopw [12] (fun iv wr => ∃ k : Nat, k ≤ L.length ∧ iv = .int .i64 (k : Int) ∧ Hid (CpW k w0.heap.size (w.heap.size + 2) L (.slice ua L.length uc) (w.heap.size) (w.heap.size + 1) #[.int .i64 m.v, .int .i64 m.c, .int .i64 m.s, .int .i64 m.r, .int .i64 m.t, .slice ua L.length uc] #[.int .i64 0, .int .i64 0, .int .i64 0, .int .i64 0, .int .i64 0, .slice none 0 0] w wr)) (fun iv _ => L.length - (intOf iv).toNat)
  case atStart => exact ⟨0, by omega, rfl, HC⟩
  case round =>
    obtain ⟨k, hk, rfl, HW⟩ := hrel
    clear HC
    by_cases hlt : k < L.length
    rotate_left
    · skip
      obtain rfl : k = L.length := by omega
      have t1 : ¬ (L.length : Int) < (L.length : Int) := by omega
      clear hlt hk
      have HWo := Lib.hid (HW.out.1.strong HW.out.2.2.2.2.2)
      have HWs := Lib.hid HW.out.2.1
      have HWr := Lib.hid HW.out.2.2.1
      have HWb := Lib.hid HW.out.2.2.2.1
      clear HW
      have HS1 := HB0.out.size
      have xs0 := HWs.out.c 0 rfl
      have xs1 := HWs.out.c 1 rfl
      have xs2 := HWs.out.c 2 rfl
      have xs3 := HWs.out.c 3 rfl
      have xs4 := HWs.out.c 4 rfl
      have xs5 := HWs.out.c 5 rfl
      have zs := HWs.out.2.2
      have xr0 := HWr.out.c 0 rfl
      have xr1 := HWr.out.c 1 rfl
      have xr2 := HWr.out.c 2 rfl
      have xr3 := HWr.out.c 3 rfl
      have xr4 := HWr.out.c 4 rfl
      have xr5 := HWr.out.c 5 rfl
      have zr := HWr.out.2.2
      have fr0 := HWr.out.f 0 (by simp)
      have fr1 := HWr.out.f 1 (by simp)
      have fr2 := HWr.out.f 2 (by simp)
      have fr3 := HWr.out.f 3 (by simp)
      have fr4 := HWr.out.f 4 (by simp)
      have fr5 := HWr.out.f 5 (by simp)
      have HLE := Lib.hid (show w.heap.size ≤ (w.heap.size + 1) from by omega)
      have q90 := Lib.hid (Cs.set HWr.out 0 (by simp) (.int .i64 m.v) (vs' := #[.int .i64 m.v, .int .i64 0, .int .i64 0, .int .i64 0, .int .i64 0, .slice none 0 0]) rfl)
      have q91 := Lib.hid (Cs.set q90.out 1 (by simp) (.int .i64 m.c) (vs' := #[.int .i64 m.v, .int .i64 m.c, .int .i64 0, .int .i64 0, .int .i64 0, .slice none 0 0]) rfl)
      have q92 := Lib.hid (Cs.set q91.out 2 (by simp) (.int .i64 m.s) (vs' := #[.int .i64 m.v, .int .i64 m.c, .int .i64 m.s, .int .i64 0, .int .i64 0, .slice none 0 0]) rfl)
      have q93 := Lib.hid (Cs.set q92.out 3 (by simp) (.int .i64 m.r) (vs' := #[.int .i64 m.v, .int .i64 m.c, .int .i64 m.s, .int .i64 m.r, .int .i64 0, .slice none 0 0]) rfl)
      have q94 := Lib.hid (Cs.set q93.out 4 (by simp) (.int .i64 m.t) (vs' := #[.int .i64 m.v, .int .i64 m.c, .int .i64 m.s, .int .i64 m.r, .int .i64 m.t, .slice none 0 0]) rfl)
      have q95 := Lib.hid (Cs.set q94.out 5 (by simp) (.slice ua L.length uc) (vs' := #[.int .i64 m.v, .int .i64 m.c, .int .i64 m.s, .int .i64 m.r, .int .i64 m.t, .slice ua L.length uc]) rfl)
      clear q90 q91 q92 q93 q94
      go_wp2
      have hC := q95.out
      have hB := ((((((HWb.out.setCell (p := ⟨(w.heap.size + 1), 0, none⟩) HLE.out (.int .i64 m.v)).setCell (p := ⟨(w.heap.size + 1), 1, none⟩) HLE.out (.int .i64 m.c)).setCell (p := ⟨(w.heap.size + 1), 2, none⟩) HLE.out (.int .i64 m.s)).setCell (p := ⟨(w.heap.size + 1), 3, none⟩) HLE.out (.int .i64 m.r)).setCell (p := ⟨(w.heap.size + 1), 4, none⟩) HLE.out (.int .i64 m.t)).setCell (p := ⟨(w.heap.size + 1), 5, none⟩) HLE.out (.slice ua L.length uc))
      have hX := (OwR.set (B := (w.heap.size + 1)) (OwR.set (B := (w.heap.size + 1)) (OwR.set (B := (w.heap.size + 1)) (OwR.set (B := (w.heap.size + 1)) (OwR.set (B := (w.heap.size + 1)) (OwR.set (B := (w.heap.size + 1)) HWo.out (by omega) (by omega) 0 (.int .i64 m.v)) (by omega) (by omega) 1 (.int .i64 m.c)) (by omega) (by omega) 2 (.int .i64 m.s)) (by omega) (by omega) 3 (.int .i64 m.r)) (by omega) (by omega) 4 (.int .i64 m.t)) (by omega) (by omega) 5 (.slice ua L.length uc))
      obtain ⟨V9, hV9⟩ : ∃ z9, ((((((wr.setCell ⟨(w.heap.size + 1), 0, none⟩ (.int .i64 m.v)).setCell ⟨(w.heap.size + 1), 1, none⟩ (.int .i64 m.c)).setCell ⟨(w.heap.size + 1), 2, none⟩ (.int .i64 m.s)).setCell ⟨(w.heap.size + 1), 3, none⟩ (.int .i64 m.r)).setCell ⟨(w.heap.size + 1), 4, none⟩ (.int .i64 m.t)).setCell ⟨(w.heap.size + 1), 5, none⟩ (.slice ua L.length uc)) = z9 := ⟨_, rfl⟩
      rw [hV9] at hC hB hX ⊢
      clear hV9
      have k0 : V9.cell? ⟨(w.heap.size + 1), 0, none⟩ = some (.int .i64 m.v) := hC.c 0 rfl
      have k1 : V9.cell? ⟨(w.heap.size + 1), 1, none⟩ = some (.int .i64 m.c) := hC.c 1 rfl
      have k2 : V9.cell? ⟨(w.heap.size + 1), 2, none⟩ = some (.int .i64 m.s) := hC.c 2 rfl
      have k3 : V9.cell? ⟨(w.heap.size + 1), 3, none⟩ = some (.int .i64 m.r) := hC.c 3 rfl
      have k4 : V9.cell? ⟨(w.heap.size + 1), 4, none⟩ = some (.int .i64 m.t) := hC.c 4 rfl
      have k5 : V9.cell? ⟨(w.heap.size + 1), 5, none⟩ = some (.slice ua L.length uc) := hC.c 5 rfl
      exact bodyPost_ret (v := .agg #[.int .i64 m.v, .int .i64 m.c, .int .i64 m.s, .int .i64 m.r, .int .i64 m.t, .slice ua L.length uc]) (by simp [results, Try.results50, go_sem, k0, k1, k2, k3, k4, k5]) rfl (⟨_, rfl, hX, hB⟩)
    have HIL := Lib.hid hlt
    have h8 := H8.out _ (getD_memL hlt)
    obtain ⟨g, rfl, hg, hgs, f0, ya, yc, x0, hy⟩ := HW.out.1.at hlt
    have HY := Lib.hid hy
    have HGN := Lib.hid hg
    have xs := HW.out.2.1.c 5 rfl
    have xz := HW.out.2.1.2.2
    have t1 : (k : Int) < (L.length : Int) := by omega
    obtain ⟨x, hx⟩ : ∃ z9, L.getD k [] = z9 := ⟨_, rfl⟩
    have HXX := Lib.hid hx
    rw [hx] at x0 HY h8
    have HX8 := Lib.hid h8
    clear hx hy h8 hg
    go_upto_region 5 with fail
    clear x0 f0 hgs xs xz t1
    have HGS := Lib.hid (show g < wr.heap.size ∧ (w.heap.size + 2) ≤ wr.heap.size from by
      obtain ⟨g2, hg2, -, hgs, -⟩ := HW.out.1.at HIL.out
      obtain rfl : g = g2 := by simpa using hg2
      have := HGN.out
      exact ⟨hgs, by omega⟩)
    obtain ⟨lit, hlit⟩ : ∃ lit : (Nat → Value) → Act, lit = fun vs => { tmps := List.toArray (Value.agg #[Value.int IntKind.i64 m.v, Value.int IntKind.i64 m.c, Value.int IntKind.i64 m.s, Value.int IntKind.i64 m.r, Value.int IntKind.i64 m.t, Value.slice va L.length vc] :: Value.pointer (some { block := w.heap.size, off := 0 }) :: Value.pointer (some { block := w.heap.size + 1, off := 0 }) :: Value.int IntKind.i64 (k : Int) :: Value.slice ya x.length yc :: Value.pointer (some { block := w.heap.size, off := 5 }) :: Value.slice va L.length vc :: Value.slice (some { block := g, off := 0 }) L.length uc :: Value.pointer (some { block := w.heap.size, off := 5 }) :: Value.pointer (some { block := w.heap.size, off := 5 }) :: Value.slice (some { block := g, off := 0 }) L.length uc :: Value.int IntKind.i64 (L.length : Int) :: Value.int IntKind.i64 (k : Int) :: Value.bool true :: Value.int IntKind.i64 (k : Int) :: Value.pointer (some { block := g, off := k }) :: Value.slice ya x.length yc :: vs 0 :: vs 1 :: vs 2 :: vs 3 :: vs 4 :: vs 5 :: u23 :: undef :: []), defers := [] } := ⟨_, rfl⟩
    have HLIT := Lib.hid hlit
    clear hlit
    obtain ⟨val, hval⟩ : ∃ val : List Value, val = [.pointer (some ⟨(w.heap.size), 5, none⟩), .slice (some ⟨g, 0, none⟩) L.length uc, .int .i64 (k : Int), .slice ya x.length yc, undef, .pointer (some ⟨g, k, none⟩), undef] := ⟨_, rfl⟩
    have E0 := Lib.hid (show val.getD 0 undef = .pointer (some ⟨(w.heap.size), 5, none⟩) by rw [hval]; rfl)
    have E1 := Lib.hid (show val.getD 1 undef = .slice (some ⟨g, 0, none⟩) L.length uc by rw [hval]; rfl)
    have E2 := Lib.hid (show val.getD 2 undef = .int .i64 (k : Int) by rw [hval]; rfl)
    have E3 := Lib.hid (show val.getD 3 undef = .slice ya x.length yc by rw [hval]; rfl)
    have E5 := Lib.hid (show val.getD 5 undef = .pointer (some ⟨g, k, none⟩) by rw [hval]; rfl)
    clear hval
    obtain ⟨G, hG0⟩ : ∃ G : Bool → Nat → Value → World → Prop, G = (fun bq iq vq ww => (iq = 4 → QcL wr.heap.size x bq vq ww) ∧ (iq ≠ 4 → iq ≠ 6 → vq = val.getD iq undef)) := ⟨_, rfl⟩
    have HG := Lib.hid hG0
    clear hG0
    refine region_inv (NS lit 6 (fun p q => (p == 6 && q == 0) || (p == 6 && q == 1) || (p == 6 && q == 2) || (p == 6 && q == 3) || (p == 6 && q == 4) || (p == 6 && q == 5)) G fun bq wv => (bq = false → Below wr.heap.size wr wv) ∧ (bq = true → CpW (k + 1) w0.heap.size (w.heap.size + 2) L (.slice (some ⟨g, 0, none⟩) L.length uc) (w.heap.size) (w.heap.size + 1) #[.int .i64 m.v, .int .i64 m.c, .int .i64 m.s, .int .i64 m.r, .int .i64 m.t, .slice (some ⟨g, 0, none⟩) L.length uc] #[.int .i64 0, .int .i64 0, .int .i64 0, .int .i64 0, .int .i64 0, .slice none 0 0] w wv)) (by kernel_rfl) (by decide +kernel) ?_ ?_ ?_
    · exact NS.start (fun i => ([u17, u18, u19, u20, u21, u22, undef] : List Value).getD i undef) (by rw [HLIT.out]; rfl) ⟨fun _ => below_drew _ _, fun h => (by cases h)⟩
    · refine ⟨?_, ?_, ?_, ?_, ?_, ?_, ?_, trivial⟩
      · intro bf ac wv hfb haf hJ K' hK
        obtain ⟨vs, rfl, ja, hB, j4⟩ := hJ
        replace hK := Lib.hid hK
        rw [HG.out] at j4
        replace j4 := Lib.hid (And.intro ja j4)
        replace hB := Lib.hid hB
        clear ja haf
        rw [HLIT.out]
        go_simp
        exact hK.out _ _ (NS.next (wv := wv) (vs := vs) 0 (by omega) (fun q h => absurd h (by simp)) (x := .pointer (some ⟨(w.heap.size), 5, none⟩)) (by rw [HLIT.out]; rfl) (by rw [HG.out]; exact j4.out) hB.out (by rw [HG.out]; exact fun _ _ h => h) (by rw [HG.out]; exact ⟨fun h => absurd h (by decide), fun _ _ => E0.out.symm⟩))
      · intro bf ac wv hfb haf hJ K' hK
        obtain ⟨vs, rfl, ja, hB, j4⟩ := hJ
        replace hK := Lib.hid hK
        simp [Region.binds] at haf
        rw [HG.out] at j4
        have e0 := ((j4 0 (by simp [haf])).2 (by decide) (by decide)).trans E0.out
        have hd : bf 6 = false := by
          cases h : bf 6
          · rfl
          · exact absurd ((ja 6 1 rfl h).symm.trans hfb) (by simp)
        have hM := Lib.hid (hB.1 hd)
        replace j4 := Lib.hid (And.intro ja j4)
        replace hB := Lib.hid hB
        clear ja haf
        have y5 := (HW.out.2.1.step hM.out).c 5 rfl
        have yz := (HW.out.2.1.step hM.out).2.2
        rw [HLIT.out]
        go_simp
        exact hK.out _ _ (NS.next (wv := wv) (vs := vs) 1 (by omega) (fun q h => absurd h (by simp)) (x := .slice (some ⟨g, 0, none⟩) L.length uc) (by rw [HLIT.out]; simp only [upv, e0, Nat.reduceBEq, cond_true, cond_false]) (by rw [HG.out]; exact j4.out) hB.out (by rw [HG.out]; exact fun _ _ h => h) (by rw [HG.out]; exact ⟨fun h => absurd h (by decide), fun _ _ => E1.out.symm⟩))
      · intro bf ac wv hfb haf hJ K' hK
        obtain ⟨vs, rfl, ja, hB, j4⟩ := hJ
        replace hK := Lib.hid hK
        rw [HG.out] at j4
        replace j4 := Lib.hid (And.intro ja j4)
        replace hB := Lib.hid hB
        clear ja haf
        rw [HLIT.out]
        go_simp
        exact hK.out _ _ (NS.next (wv := wv) (vs := vs) 2 (by omega) (fun q h => absurd h (by simp)) (x := .int .i64 (k : Int)) (by rw [HLIT.out]; rfl) (by rw [HG.out]; exact j4.out) hB.out (by rw [HG.out]; exact fun _ _ h => h) (by rw [HG.out]; exact ⟨fun h => absurd h (by decide), fun _ _ => E2.out.symm⟩))
      · intro bf ac wv hfb haf hJ K' hK
        obtain ⟨vs, rfl, ja, hB, j4⟩ := hJ
        replace hK := Lib.hid hK
        rw [HG.out] at j4
        replace j4 := Lib.hid (And.intro ja j4)
        replace hB := Lib.hid hB
        clear ja haf
        rw [HLIT.out]
        go_simp
        exact hK.out _ _ (NS.next (wv := wv) (vs := vs) 3 (by omega) (fun q h => absurd h (by simp)) (x := .slice ya x.length yc) (by rw [HLIT.out]; rfl) (by rw [HG.out]; exact j4.out) hB.out (by rw [HG.out]; exact fun _ _ h => h) (by rw [HG.out]; exact ⟨fun h => absurd h (by decide), fun _ _ => E3.out.symm⟩))
      · intro bf ac wv hfb haf hJ K' hK
        obtain ⟨vs, rfl, ja, hB, j4⟩ := hJ
        replace hK := Lib.hid hK
        simp [Region.binds] at haf
        rw [HG.out] at j4
        have e3 := ((j4 3 (by simp [haf])).2 (by decide) (by decide)).trans E3.out
        have hd : bf 6 = false := by
          cases h : bf 6
          · rfl
          · exact absurd ((ja 6 4 rfl h).symm.trans hfb) (by simp)
        have hM := Lib.hid (hB.1 hd)
        replace j4 := Lib.hid (And.intro ja j4)
        replace hB := Lib.hid hB
        clear ja haf
        rw [HLIT.out]
        go_simp
        go_at_call 36
        refine (in_clone _ x _ (HY.out.step hM.out) (by have := HX8.out; omega)).mono ?_
        rintro e w4 ⟨u4, rfl, hu4, b4⟩
        obtain ⟨ca, cc, e4, hq4⟩ := qc_of hu4 hM.out.size
        subst e4
        exact hK.out _ _ (NS.next (wv := wv) (vs := vs) 4 (by omega) (fun q h => absurd h (by simp)) (x := .slice ca x.length cc) (by rw [HLIT.out]; simp only [upv, e3, Nat.reduceBEq, cond_true, cond_false]) (by rw [HG.out]; exact j4.out) ⟨fun _ => keep2 b4 hM.out, fun e => absurd (e.symm.trans hd) (by simp)⟩ (by rw [HG.out]; exact fun k hbk h => ⟨fun q => ((h.1 q).step b4), h.2⟩) (by rw [HG.out]; exact ⟨fun _ => (by rw [hd]; exact ⟨ca, cc, rfl, hq4⟩), fun h4 => absurd rfl h4⟩))
      · intro bf ac wv hfb haf hJ K' hK
        obtain ⟨vs, rfl, ja, hB, j4⟩ := hJ
        replace hK := Lib.hid hK
        simp [Region.binds] at haf
        rw [HG.out] at j4
        have e1 := ((j4 1 (by simp [haf])).2 (by decide) (by decide)).trans E1.out
        have e2 := ((j4 2 (by simp [haf])).2 (by decide) (by decide)).trans E2.out
        have hd : bf 6 = false := by
          cases h : bf 6
          · rfl
          · exact absurd ((ja 6 5 rfl h).symm.trans hfb) (by simp)
        have hM := Lib.hid (hB.1 hd)
        replace j4 := Lib.hid (And.intro ja j4)
        replace hB := Lib.hid hB
        clear ja haf
        have hil := HIL.out
        have hil2 : (k : Int) < (L.length : Int) := by omega
        rw [HLIT.out]
        go_simp
        exact hK.out _ _ (NS.next (wv := wv) (vs := vs) 5 (by omega) (fun q h => absurd h (by simp)) (x := .pointer (some ⟨g, k, none⟩)) (by rw [HLIT.out]; simp only [upv, e1, e2, Nat.reduceBEq, cond_true, cond_false]) (by rw [HG.out]; exact j4.out) hB.out (by rw [HG.out]; exact fun _ _ h => h) (by rw [HG.out]; exact ⟨fun h => absurd h (by decide), fun _ _ => E5.out.symm⟩))
      · intro bf ac wv hfb haf hJ K' hK
        obtain ⟨vs, rfl, ja, hB, j4⟩ := hJ
        replace hK := Lib.hid hK
        simp [Region.binds] at haf
        rw [HG.out] at j4
        have e4 := (j4 4 (by simp [haf])).1 rfl
        have e5 := ((j4 5 (by simp [haf])).2 (by decide) (by decide)).trans E5.out
        rw [hfb] at j4 hB
        try rw [hfb] at e4
        have HA := Lib.hid (show ∀ q, (fun p q => (p == 6 && q == 0) || (p == 6 && q == 1) || (p == 6 && q == 2) || (p == 6 && q == 3) || (p == 6 && q == 4) || (p == 6 && q == 5)) 6 q = true → bf q = true from fun q hi => by
          obtain rfl | rfl | rfl | rfl | rfl | rfl : q = 0 ∨ q = 1 ∨ q = 2 ∨ q = 3 ∨ q = 4 ∨ q = 5 := by simpa [or_assoc] using hi
          all_goals simp [haf])
        have hM := Lib.hid (hB.1 rfl)
        replace j4 := Lib.hid j4
        have HE := Lib.hid (And.intro ja HA.out)
        clear ja haf hB HA
        obtain ⟨ca, cc, e4, h4⟩ := e4
        replace h4 := h4 rfl
        rw [e4] at h4
        have hCW := HW.out.step hM.out
        obtain ⟨g2, hg2, hg3, hgs, f0, ya2, yc2, x0, -⟩ := hCW.1.at HIL.out
        obtain rfl : g = g2 := by simpa using hg2
        clear hg2
        rw [HLIT.out]
        go_simp
        have hP := hCW.put (u := .slice ca x.length cc) HIL.out HXX.out HGN.out (by omega) (by omega) (by omega) h4.1 (fun q b off n c e => by
          have := h4.2 q b off n c e
          have h9 := HGS.out
          exact ⟨⟨by omega, this.2⟩, by omega⟩)
        exact hK.out _ _ (NS.put (vs := vs) (w' := wv.setCell ⟨g, k, none⟩ (.slice ca x.length cc)) (by rw [HLIT.out]; simp only [e4, e5]) HE.out ⟨fun e => (by cases e), fun _ => hP⟩ (fun j hj hb => by
          have q := j4.out j hb
          rw [HG.out]
          exact ⟨fun h => (q.1 h).put _, q.2⟩) (fun v => by rw [HG.out]; exact ⟨fun h => absurd h (by decide), fun h4 h6 => absurd rfl h6⟩))
    · intro bf ac wv hall hJ
      obtain ⟨vs, rfl, -, hB, j4⟩ := hJ
      rw [HG.out] at j4
      rw [hall 6 (by decide)] at hB j4
      have hM := Lib.hid (hB.2 rfl)
      clear hB
      have HW9 := Lib.hid hM.out
      clear hM j4 hall
      rw [HLIT.out]
      dsimp only
      clear HLIT HG
      generalize vs = us8
      go_wp2
      go_roundw
      case rel => exact ⟨k + 1, HIL.out, by go_num, HW9⟩
      case measure => have := HIL.out; simp [intOf]; omega
open Go.RowKit

/-- A slot's piece is as it can be. -/
def slP (m : Mf) (L : List (List Int)) (i : Nat) : Bool := (L.getD i []).isEmpty || ftB m i (L.getD i [])
def slB (m : Mf) (L : List (List Int)) : Bool := mfB m && (decide ((L.length : Int) = m.c) && (List.range L.length).all (slP m L))
theorem sl_all {m : Mf} {L : List (List Int)} (h : ∀ j, j < L.length → slP m L j = true) : (List.range L.length).all (slP m L) = true := by
  rw [List.all_eq_true]; intro j hj; exact h j (List.mem_range.1 hj)
theorem sl_hit {m : Mf} {L : List (List Int)} {k : Nat} (h : k < L.length) (hb : slP m L k = false) : (List.range L.length).all (slP m L) = false := by
  rw [List.all_eq_false]; exact ⟨k, List.mem_range.2 h, by rw [hb]; exact Bool.false_ne_true⟩
theorem rows_at {w : World} {va : Option Addr} {vc : Nat} {L : List (List Int)} (h : RowsAt w (.slice va L.length vc) L) {k : Nat} (hk : k < L.length) : ∃ b off, va = some ⟨b, off, none⟩ ∧ ∃ ya yc, w.cell? ⟨b, off + k, none⟩ = some (.slice ya (L.getD k []).length yc) ∧ b < w.heap.size ∧ IntsAt w (.slice ya (L.getD k []).length yc) (L.getD k []) := by
  obtain ⟨a, c, e, -, h⟩ := h
  obtain ⟨b, off, e1, hx⟩ := h (by intro q; rw [q] at hk; simp at hk)
  obtain ⟨u, hu, hi⟩ := hx k _ (rows_get hk)
  have : va = a := by simp at e; exact e.1
  obtain ⟨ya, yc, rfl, q1, q2⟩ := hi
  exact ⟨b, off, this.trans e1, ya, yc, hu, World.block_lt_of_cell? _ _ hu, ya, yc, rfl, q1, q2⟩
def msN (L : List (List Int)) (k : Nat) : List Int := ((List.range k).filter fun i => (L.getD i []).isEmpty).map fun i : Nat => (i : Int)
theorem msN_succ (L : List (List Int)) (k : Nat) : msN L (k + 1) = msN L k ++ (if (L.getD k []).isEmpty = true then [(k : Int)] else []) := by
  unfold msN
  rw [List.range_succ, List.filter_append, List.map_append]
  congr 1
  rw [List.filter_cons, List.filter_nil]
  cases (L.getD k []).isEmpty <;> rfl
theorem msN_len (L : List (List Int)) (k : Nat) : (msN L k).length ≤ k := by
  unfold msN
  rw [List.length_map]
  exact Nat.le_trans (List.length_filter_le _ _) (by simp)
def msL (L : List (List Int)) : List Int := msN L L.length
def msB (m : Mf) (L : List (List Int)) : List Int := if slB m L = true then msL L else []
set_option maxRecDepth 100000 in
set_option maxHeartbeats 8000000 in
theorem slot_m (m : Mf) (v : Value) (L : List (List Int)) (w : World) (h : RowsAt w v L) (_ : L.length ≤ 1000) (h8 : ∀ x ∈ L, x.length ≤ 1000) (hm : mfB m = false) : Calls Try.prog 51 #[.agg #[.int .i64 m.v, .int .i64 m.c, .int .i64 m.s, .int .i64 m.r, .int .i64 m.t, v]] w fun e w' => e = .returned (.bool (slB m L)) ∧ Below w.heap.size w w' := by
  have HR := Lib.hid (show slB m L = false by unfold slB; rw [hm]; simp)
  have HM := Lib.hid hm
  clear hm
  have HL := Lib.hid h
  have H8 := Lib.hid h8
  obtain ⟨va, vc, rfl, -, -⟩ := h
  clear h8
  have H0 := Lib.hid (Below.refl w.heap.size w)
  have H1 := Lib.hid (Cs.newB H0.out (w.heap.size) #[.int .i64 m.v, .int .i64 m.c, .int .i64 m.s, .int .i64 m.r, .int .i64 m.t, .slice va L.length vc] 27 (by simp))
  have H2 := Lib.hid (keep2 (al _ (.cells #[.int .i64 m.v, .int .i64 m.c, .int .i64 m.s, .int .i64 m.r, .int .i64 m.t, .slice va L.length vc] 27)) H0.out)
  clear H0
  go_enter Try.func51, Try.ntmps51
  have xs0 := H1.out.c 0 rfl
  have xs1 := H1.out.c 1 rfl
  have xs2 := H1.out.c 2 rfl
  have xs3 := H1.out.c 3 rfl
  have xs4 := H1.out.c 4 rfl
  have xs5 := H1.out.c 5 rfl
  have zs := H1.out.2.2
  go_wp2_with fail
  refine (manif_any m _).mono ?_
  rintro e u1 ⟨rfl, b1⟩
  clear xs0 xs1 xs2 xs3 xs4 xs5 zs
  have H3 := Lib.hid (H1.out.step b1)
  clear H1
  have H4 := Lib.hid (keep2 b1 H2.out)
  clear H2
  clear b1
  rw [HM.out]
  have xs0 := H3.out.c 0 rfl
  have xs1 := H3.out.c 1 rfl
  have xs2 := H3.out.c 2 rfl
  have xs3 := H3.out.c 3 rfl
  have xs4 := H3.out.c 4 rfl
  have xs5 := H3.out.c 5 rfl
  have zs := H3.out.2.2
  go_wp2
  go_ret
  exact ⟨ret_bool HR.out.symm, H4.out⟩
set_option maxRecDepth 100000 in
set_option maxHeartbeats 8000000 in
theorem slot_l (m : Mf) (v : Value) (L : List (List Int)) (w : World) (h : RowsAt w v L) (_ : L.length ≤ 1000) (h8 : ∀ x ∈ L, x.length ≤ 1000) (hm : mfB m = true) (hc : ¬ (L.length : Int) = m.c) : Calls Try.prog 51 #[.agg #[.int .i64 m.v, .int .i64 m.c, .int .i64 m.s, .int .i64 m.r, .int .i64 m.t, v]] w fun e w' => e = .returned (.bool (slB m L)) ∧ Below w.heap.size w w' := by
  have HR := Lib.hid (show slB m L = false by unfold slB; rw [decide_eq_false hc]; simp)
  have HM := Lib.hid hm
  clear hm
  have HL := Lib.hid h
  have H8 := Lib.hid h8
  obtain ⟨va, vc, rfl, -, -⟩ := h
  clear h8
  have H0 := Lib.hid (Below.refl w.heap.size w)
  have H1 := Lib.hid (Cs.newB H0.out (w.heap.size) #[.int .i64 m.v, .int .i64 m.c, .int .i64 m.s, .int .i64 m.r, .int .i64 m.t, .slice va L.length vc] 27 (by simp))
  have H2 := Lib.hid (keep2 (al _ (.cells #[.int .i64 m.v, .int .i64 m.c, .int .i64 m.s, .int .i64 m.r, .int .i64 m.t, .slice va L.length vc] 27)) H0.out)
  clear H0
  go_enter Try.func51, Try.ntmps51
  have xs0 := H1.out.c 0 rfl
  have xs1 := H1.out.c 1 rfl
  have xs2 := H1.out.c 2 rfl
  have xs3 := H1.out.c 3 rfl
  have xs4 := H1.out.c 4 rfl
  have xs5 := H1.out.c 5 rfl
  have zs := H1.out.2.2
  go_wp2_with fail
  refine (manif_any m _).mono ?_
  rintro e u1 ⟨rfl, b1⟩
  clear xs0 xs1 xs2 xs3 xs4 xs5 zs
  have H3 := Lib.hid (H1.out.step b1)
  clear H1
  have H4 := Lib.hid (keep2 b1 H2.out)
  clear H2
  clear b1
  rw [HM.out]
  have xs0 := H3.out.c 0 rfl
  have xs1 := H3.out.c 1 rfl
  have xs2 := H3.out.c 2 rfl
  have xs3 := H3.out.c 3 rfl
  have xs4 := H3.out.c 4 rfl
  have xs5 := H3.out.c 5 rfl
  have zs := H3.out.2.2
  have t1 : ((L.length : Int) != m.c) = true := by simpa using hc
  have t2 : ((L.length : Int) == m.c) = false := by simpa using hc
  go_wp2
  go_ret
  exact ⟨ret_bool HR.out.symm, H4.out⟩
set_option maxRecDepth 100000 in
set_option maxHeartbeats 8000000 in
theorem slot_go (m : Mf) (v : Value) (L : List (List Int)) (w : World) (h : RowsAt w v L) (h9 : L.length ≤ 1000) (h8 : ∀ x ∈ L, x.length ≤ 1000) (hm : mfB m = true) (hc : (L.length : Int) = m.c) : Calls Try.prog 51 #[.agg #[.int .i64 m.v, .int .i64 m.c, .int .i64 m.s, .int .i64 m.r, .int .i64 m.t, v]] w fun e w' => e = .returned (.bool (slB m L)) ∧ Below w.heap.size w w' := by
  have HM := Lib.hid hm
  have HC := Lib.hid hc
  clear hm hc
  have HL := Lib.hid h
  have H8 := Lib.hid h8
  obtain ⟨va, vc, rfl, -, -⟩ := h
  clear h8
  have H0 := Lib.hid (Below.refl w.heap.size w)
  have H1 := Lib.hid (Cs.newB H0.out (w.heap.size) #[.int .i64 m.v, .int .i64 m.c, .int .i64 m.s, .int .i64 m.r, .int .i64 m.t, .slice va L.length vc] 27 (by simp))
  have H2 := Lib.hid (keep2 (al _ (.cells #[.int .i64 m.v, .int .i64 m.c, .int .i64 m.s, .int .i64 m.r, .int .i64 m.t, .slice va L.length vc] 27)) H0.out)
  clear H0
  go_enter Try.func51, Try.ntmps51
  have xs0 := H1.out.c 0 rfl
  have xs1 := H1.out.c 1 rfl
  have xs2 := H1.out.c 2 rfl
  have xs3 := H1.out.c 3 rfl
  have xs4 := H1.out.c 4 rfl
  have xs5 := H1.out.c 5 rfl
  have zs := H1.out.2.2
  go_wp2_with fail
  refine (manif_any m _).mono ?_
  rintro e u1 ⟨rfl, b1⟩
  clear xs0 xs1 xs2 xs3 xs4 xs5 zs
  have H3 := Lib.hid (H1.out.step b1)
  clear H1
  have H4 := Lib.hid (keep2 b1 H2.out)
  clear H2
  clear b1
  rw [HM.out]
  have xs0 := H3.out.c 0 rfl
  have xs1 := H3.out.c 1 rfl
  have xs2 := H3.out.c 2 rfl
  have xs3 := H3.out.c 3 rfl
  have xs4 := H3.out.c 4 rfl
  have xs5 := H3.out.c 5 rfl
  have zs := H3.out.2.2
  have t1 : ((L.length : Int) != m.c) = false := by simpa using HC.out
  have t2 : ((L.length : Int) == m.c) = true := by simpa using HC.out
  go_wp2_with fail
  clear xs0 xs1 xs2 xs3 xs4 xs5 zs
  clear t1 t2
  go_loopw [21] (fun iv wr => ∃ k : Nat, k ≤ L.length ∧ iv = .int .i64 (k : Int) ∧ Hid (∀ j, j < k → slP m L j = true) ∧ Hid (Below u1.heap.size u1 wr)) (fun iv _ => L.length - (intOf iv).toNat)
  case atStart => exact ⟨0, by omega, rfl, Lib.hid (fun j h => absurd h (by omega)), Lib.hid (Below.refl _ _)⟩
  case round =>
    obtain ⟨k, hk, rfl, HN, HW⟩ := hrel
    have HS := Lib.hid (H3.out.step HW.out)
    have HB := Lib.hid (keep2 HW.out H4.out)
    by_cases hlt : k < L.length
    rotate_left
    · obtain rfl : k = L.length := by omega
      have HA := Lib.hid (show slB m L = true by unfold slB; rw [HM.out, decide_eq_true HC.out, sl_all HN.out]; rfl)
      have t3 : ¬ (L.length : Int) < (L.length : Int) := by omega
      go_wp2
      go_ret
      exact ⟨ret_bool HA.out.symm, HB.out⟩
    have HIL := Lib.hid hlt
    have HHT := Lib.hid (sl_hit (m := m) hlt)
    have h8 := H8.out _ (getD_memL hlt)
    have HN2 := Lib.hid (show slP m L k = true → ∀ j, j < k + 1 → slP m L j = true from fun hx j h => by
      by_cases e : j = k
      · subst e; exact hx
      · exact HN.out j (by omega))
    have HP := Lib.hid (show slP m L k = ((L.getD k []).isEmpty || ftB m k (L.getD k [])) from rfl)
    obtain ⟨bb, off, rfl, ya, yc, x0, xz, hy⟩ := rows_at (HL.out.step HB.out) hlt
    have HY := Lib.hid hy
    clear hy
    have t3 : (k : Int) < (L.length : Int) := by omega
    obtain ⟨x, hx⟩ : ∃ z9, L.getD k [] = z9 := ⟨_, rfl⟩
    rw [hx] at x0 HY h8 HP
    clear hx
    cases x with
    | nil =>
      have HP1 := Lib.hid (HN2.out (by rw [HP.out]; rfl))
      simp only [List.length_nil] at x0
      have xs0 := HS.out.c 0 rfl
      have xs1 := HS.out.c 1 rfl
      have xs2 := HS.out.c 2 rfl
      have xs3 := HS.out.c 3 rfl
      have xs4 := HS.out.c 4 rfl
      have xs5 := HS.out.c 5 rfl
      have zs := HS.out.2.2
      go_wp2
      go_roundw
      case rel => exact ⟨k + 1, HIL.out, by go_num, HP1, HW⟩
      case measure => have := HIL.out; simp [intOf]; omega
    | cons y x =>
      have t0 : 0 < (y :: x).length := by simp
      have t4 : (0 : Int) < ((y :: x).length : Int) := by omega
      have t5 : decide ((0 : Int) < ((y :: x).length : Int)) = true := decide_eq_true t4
      obtain ⟨z, hz⟩ : ∃ z9, y :: x = z9 := ⟨_, rfl⟩
      rw [hz] at x0 HY h8 HP t0 t4 t5
      clear hz
      have t6 : 0 < z.length := by omega
      have t7 : ¬ z = [] := by intro e; rw [e] at t6; simp at t6
      have HP2 := Lib.hid (show slP m L k = ftB m k z by rw [HP.out]; cases z with
        | nil => exact absurd rfl t7
        | cons a b => rfl)
      have xs0 := HS.out.c 0 rfl
      have xs1 := HS.out.c 1 rfl
      have xs2 := HS.out.c 2 rfl
      have xs3 := HS.out.c 3 rfl
      have xs4 := HS.out.c 4 rfl
      have xs5 := HS.out.c 5 rfl
      have zs := HS.out.2.2
      go_wp2_with fail
      clear t4 t5 t6 t7
      refine (fit_any m k _ z _ HY.out HM.out).mono ?_
      rintro e u2 ⟨rfl, b2⟩
      clear xs0 xs1 xs2 xs3 xs4 xs5 zs
      have H5 := Lib.hid (HS.out.step b2)
      clear HS
      have H6 := Lib.hid (keep2 b2 HB.out)
      clear HB
      have HBX := Lib.hid b2
      clear b2
      cases hf : ftB m k z
      · have HA := Lib.hid (show slB m L = false by unfold slB; rw [HM.out, decide_eq_true HC.out, HHT.out (by rw [HP2.out]; exact hf)]; rfl)
        go_wp2
        go_ret
        exact ⟨ret_bool HA.out.symm, H6.out⟩
      · have HP3 := Lib.hid (HN2.out (by rw [HP2.out]; exact hf))
        have HW2 := Lib.hid (keep2 HBX.out HW.out)
        go_wp2
        go_roundw
        case rel => exact ⟨k + 1, HIL.out, by go_num, HP3, HW2⟩
        case measure => have := HIL.out; simp [intOf]; omega
set_option maxRecDepth 100000 in
set_option maxHeartbeats 8000000 in
theorem slot_any (m : Mf) (v : Value) (L : List (List Int)) (w : World) (h : RowsAt w v L) (h9 : L.length ≤ 1000) (h8 : ∀ x ∈ L, x.length ≤ 1000) : Calls Try.prog 51 #[.agg #[.int .i64 m.v, .int .i64 m.c, .int .i64 m.s, .int .i64 m.r, .int .i64 m.t, v]] w fun e w' => e = .returned (.bool (slB m L)) ∧ Below w.heap.size w w' := by
  cases hm : mfB m
  · exact slot_m m v L w h h9 h8 hm
  · by_cases hc : (L.length : Int) = m.c
    · exact slot_go m v L w h h9 h8 hm hc
    · exact slot_l m v L w h h9 h8 hm hc
set_option maxRecDepth 100000 in
set_option maxHeartbeats 8000000 in
theorem miss_no (m : Mf) (v : Value) (L : List (List Int)) (w : World) (h : RowsAt w v L) (h9 : L.length ≤ 1000) (h8 : ∀ x ∈ L, x.length ≤ 1000) (hm : slB m L = false) : Calls Try.prog 22 #[.agg #[.int .i64 m.v, .int .i64 m.c, .int .i64 m.s, .int .i64 m.r, .int .i64 m.t, v]] w (fun e w' => ∃ u, e = .returned u ∧ IntsAt w' u (msB m L) ∧ Below w.heap.size w w') := by
  have HR := Lib.hid (show msB m L = [] by unfold msB; rw [hm]; rfl)
  have HM := Lib.hid hm
  clear hm
  have HL := Lib.hid h
  have H8 := Lib.hid h8
  obtain ⟨va, vc, rfl, -, -⟩ := h
  clear h8
  have H0 := Lib.hid (Below.refl w.heap.size w)
  have H1 := Lib.hid (Cs.newB H0.out (w.heap.size) #[.int .i64 m.v, .int .i64 m.c, .int .i64 m.s, .int .i64 m.r, .int .i64 m.t, .slice va L.length vc] 27 (by simp))
  have H2 := Lib.hid (keep2 (al _ (.cells #[.int .i64 m.v, .int .i64 m.c, .int .i64 m.s, .int .i64 m.r, .int .i64 m.t, .slice va L.length vc] 27)) H0.out)
  clear H0
  go_enter Try.func22, Try.ntmps22
  have xs0 := H1.out.c 0 rfl
  have xs1 := H1.out.c 1 rfl
  have xs2 := H1.out.c 2 rfl
  have xs3 := H1.out.c 3 rfl
  have xs4 := H1.out.c 4 rfl
  have xs5 := H1.out.c 5 rfl
  have zs := H1.out.2.2
  go_wp2_with fail
  refine (slot_any m _ L _ (HL.out.step H2.out) h9 H8.out).mono ?_
  rintro e u1 ⟨rfl, b1⟩
  clear xs0 xs1 xs2 xs3 xs4 xs5 zs
  have H3 := Lib.hid (H1.out.step b1)
  clear H1
  have H4 := Lib.hid (keep2 b1 H2.out)
  clear H2
  clear b1
  rw [HM.out]
  have xs0 := H3.out.c 0 rfl
  have xs1 := H3.out.c 1 rfl
  have xs2 := H3.out.c 2 rfl
  have xs3 := H3.out.c 3 rfl
  have xs4 := H3.out.c 4 rfl
  have xs5 := H3.out.c 5 rfl
  have zs := H3.out.2.2
  go_wp2
  go_ret
  exact ⟨_, rfl, by rw [HR.out]; exact ints_nil _, H4.out⟩
set_option maxRecDepth 100000 in
set_option maxHeartbeats 8000000 in
theorem miss_go (m : Mf) (v : Value) (L : List (List Int)) (w : World) (h : RowsAt w v L) (h9 : L.length ≤ 1000) (h8 : ∀ x ∈ L, x.length ≤ 1000) (hm : slB m L = true) : Calls Try.prog 22 #[.agg #[.int .i64 m.v, .int .i64 m.c, .int .i64 m.s, .int .i64 m.r, .int .i64 m.t, v]] w (fun e w' => ∃ u, e = .returned u ∧ IntsAt w' u (msB m L) ∧ Below w.heap.size w w') := by
  have HR := Lib.hid (show msB m L = msN L L.length by unfold msB; rw [hm]; rfl)
  have HM := Lib.hid hm
  have H9 := Lib.hid h9
  clear hm
  have HL := Lib.hid h
  have H8 := Lib.hid h8
  obtain ⟨va, vc, rfl, -, -⟩ := h
  clear h8
  have H0 := Lib.hid (Below.refl w.heap.size w)
  have H1 := Lib.hid (Cs.newB H0.out (w.heap.size) #[.int .i64 m.v, .int .i64 m.c, .int .i64 m.s, .int .i64 m.r, .int .i64 m.t, .slice va L.length vc] 27 (by simp))
  have H2 := Lib.hid (keep2 (al _ (.cells #[.int .i64 m.v, .int .i64 m.c, .int .i64 m.s, .int .i64 m.r, .int .i64 m.t, .slice va L.length vc] 27)) H0.out)
  clear H0
  go_enter Try.func22, Try.ntmps22
  have xs0 := H1.out.c 0 rfl
  have xs1 := H1.out.c 1 rfl
  have xs2 := H1.out.c 2 rfl
  have xs3 := H1.out.c 3 rfl
  have xs4 := H1.out.c 4 rfl
  have xs5 := H1.out.c 5 rfl
  have zs := H1.out.2.2
  go_wp2_with fail
  refine (slot_any m _ L _ (HL.out.step H2.out) h9 H8.out).mono ?_
  rintro e u1 ⟨rfl, b1⟩
  clear xs0 xs1 xs2 xs3 xs4 xs5 zs
  have H3 := Lib.hid (H1.out.step b1)
  clear H1
  have H4 := Lib.hid (keep2 b1 H2.out)
  clear H2
  clear b1
  rw [HM.out]
  have xs0 := H3.out.c 0 rfl
  have xs1 := H3.out.c 1 rfl
  have xs2 := H3.out.c 2 rfl
  have xs3 := H3.out.c 3 rfl
  have xs4 := H3.out.c 4 rfl
  have xs5 := H3.out.c 5 rfl
  have zs := H3.out.2.2
  go_wp2_with fail
  clear xs0 xs1 xs2 xs3 xs4 xs5 zs
  obtain ⟨i0, hi0, hz0, hz1, hz2⟩ := info_parts infoInt
  go_loopw [3, 12] (fun rv iv wr => ∃ k : Nat, k ≤ L.length ∧ iv = .int .i64 (k : Int) ∧ Hid (wr.ownsRow u1.heap.size 3 1 rv (msN L k).length ((msN L k).map (Value.int .i64))) ∧ Hid (Below u1.heap.size u1 wr)) (fun _ iv _ => L.length - (intOf iv).toNat)
  case atStart => exact ⟨0, by omega, rfl, Lib.hid (World.ownsRow_nil _ _ _ _), Lib.hid (Below.refl _ _)⟩
  case round =>
    obtain ⟨k, hk, rfl, HR0, HW⟩ := hrel
    have HS := Lib.hid (H3.out.step HW.out)
    have HB := Lib.hid (keep2 HW.out H4.out)
    by_cases hlt : k < L.length
    rotate_left
    · obtain rfl : k = L.length := by omega
      have t3 : ¬ (L.length : Int) < (L.length : Int) := by omega
      go_wp2
      go_ret
      exact ⟨_, rfl, by rw [HR.out]; exact ints_of_row HR0.out, HB.out⟩
    have HIL := Lib.hid hlt
    have h8 := H8.out _ (getD_memL hlt)
    have HSU := Lib.hid (msN_succ L k)
    have HML := msN_len L k
    obtain ⟨bb, off, rfl, ya, yc, x0, xz, -⟩ := rows_at (HL.out.step HB.out) hlt
    have t3 : (k : Int) < (L.length : Int) := by omega
    obtain ⟨x, hx⟩ : ∃ z9, L.getD k [] = z9 := ⟨_, rfl⟩
    rw [hx] at x0 HSU h8
    clear hx
    have g2 : L.length ≤ 1000 := H9.out
    cases x with
    | nil =>
      simp only [List.length_nil] at x0
      have HUS := Lib.hid HW.out.size
      have HNE := Lib.hid (show msN L (k + 1) = msN L k ++ [(k : Int)] from HSU.out)
      go_wp2_with (at_builtin; refine wpList_append_own _ rfl _ _ 22 rfl u1.heap.size 3 i0 _ 1 8 Try.underlying22 hi0 hz0 hz1 hz2 rfl (by decide) _ _ _ rfl (HR0.out.alloc _) ⟨wr.heap.size, 0, none⟩ 1 1 [.int .i64 (k : Int)] rfl rfl (cell_one_new _ _ _) (by simp [Value.oneCell']) (by unfold maxLen; omega) (by omega) (by have := HUS.out; simp; omega) ?_; intro v8 w8 ho8 hg8 _; have HR8 := Lib.hid ho8; have HB8 := Lib.hid (below_own (Nat.le_refl _) HW.out HR0.out hg8); clear ho8 hg8)
      go_roundw
      case rel => exact ⟨k + 1, HIL.out, by go_num, (by rw [HNE.out, List.length_append, List.map_append]; exact HR8), HB8⟩
      case measure => have := HIL.out; simp [intOf]; omega
    | cons y x =>
      have t0 : 0 < (y :: x).length := by simp
      have t4 : ((y :: x).length : Int) ≠ 0 := by omega
      have HNE := Lib.hid (show msN L (k + 1) = msN L k by rw [HSU.out]; simp)
      obtain ⟨z, hz⟩ : ∃ z9, (y :: x).length = z9 := ⟨_, rfl⟩
      rw [hz] at x0 t0 t4 h8
      clear hz
      have t5 : ((z : Int) == 0) = false := by simp; omega
      have t6 : ¬ z = 0 := by omega
      go_wp2
      go_roundw
      case rel => exact ⟨k + 1, HIL.out, by go_num, (by rw [HNE.out]; exact HR0), HW⟩
      case measure => have := HIL.out; simp [intOf]; omega
set_option maxRecDepth 100000 in
set_option maxHeartbeats 8000000 in
theorem miss_any (m : Mf) (v : Value) (L : List (List Int)) (w : World) (h : RowsAt w v L) (h9 : L.length ≤ 1000) (h8 : ∀ x ∈ L, x.length ≤ 1000) : Calls Try.prog 22 #[.agg #[.int .i64 m.v, .int .i64 m.c, .int .i64 m.s, .int .i64 m.r, .int .i64 m.t, v]] w (fun e w' => ∃ u, e = .returned u ∧ IntsAt w' u (msB m L) ∧ Below w.heap.size w w') := by
  cases hm : slB m L
  · exact miss_no m v L w h h9 h8 hm
  · exact miss_go m v L w h h9 h8 hm
end Go.Proofs.Yteodafhgfcbdpaa
