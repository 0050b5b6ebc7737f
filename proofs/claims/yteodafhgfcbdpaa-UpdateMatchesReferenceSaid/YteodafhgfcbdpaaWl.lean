import Derived.Test.YteodafhgfcbdpaaUm
import Derived.Test.YteodafhgfcbdpaaWg
namespace Go.Proofs.Yteodafhgfcbdpaa
open Go.RowKit

/-- What the reference's 'Add' answers. -/
def raL (m : Mf) (L : List (List Int)) (i : Int) (d p : List Int) : List (List Int) := if adE m L i d p = 0 then L.set i.toNat d else L
theorem rform_c (v : Value) (p : List Int) (i c : Nat) (z : Int) (hz : z = (c : Int)) (w : World) (h : IntsAt w v p) (hc : c ≤ 64) (hi : i ≤ 64) (hp9 : p.length ≤ 1000) : Calls Try.prog 56 #[v, .int .i64 (i : Int), .int .i64 z] w fun e w' => e = .returned (.bool (fmOK (fmL i c) p)) ∧ w = w' := by
  subst hz
  exact rform_any v p i c w h hc hi hp9
/-- A new list of slices, each of an earlier world or of its own. -/
def RwR (w0 : World) (n0 : Nat) (l : List (List Int)) (rv : Value) (W : World) : Prop :=
  ∃ us : List Value, us.length = l.length ∧ W.ownsRow n0 22 1 rv l.length us ∧ ∀ (i : Nat) (x : List Int), l[i]? = some x → ∃ u, us[i]? = some u ∧ (IntsAt w0 u x ∨ W.ownsRow n0 3 1 u x.length (x.map (Value.int .i64)))
theorem RwR.nil (w0 : World) (n0 : Nat) (W : World) : RwR w0 n0 [] (.slice none 0 0) W := ⟨[], rfl, World.ownsRow_nil _ _ _ _, fun i x h => by simp at h⟩
theorem RwR.step {w0 : World} {n0 : Nat} {l : List (List Int)} {rv : Value} {W W' : World} (h : RwR w0 n0 l rv W) (hb : Below W.heap.size W W') : RwR w0 n0 l rv W' := by
  obtain ⟨us, h0, h1, h2⟩ := h
  refine ⟨us, h0, row_step h1 hb, fun i x hi => ?_⟩
  obtain ⟨u, e1, e2⟩ := h2 i x hi
  exact ⟨u, e1, e2.imp id fun q => row_step q hb⟩
theorem RwR.set {w0 : World} {n0 B : Nat} {l : List (List Int)} {rv : Value} {W : World} (h : RwR w0 n0 l rv W) (hB : B < n0) (j : Nat) (u : Value) : RwR w0 n0 l rv (W.setCell ⟨B, j, none⟩ u) := by
  obtain ⟨us, h0, h1, h2⟩ := h
  refine ⟨us, h0, ownsRow_setCell_below h1 (a := ⟨B, j, none⟩) hB u, fun i x hi => ?_⟩
  obtain ⟨u1, e1, e2⟩ := h2 i x hi
  exact ⟨u1, e1, e2.imp id fun q => ownsRow_setCell_below q (a := ⟨B, j, none⟩) hB u⟩
theorem RwR.row {w0 : World} {n0 : Nat} {l : List (List Int)} {rv : Value} {W : World} (h : RwR w0 n0 l rv W) : ∃ a c, rv = .slice a l.length c := by
  obtain ⟨us, -, h1, -⟩ := h
  exact row_slice h1
theorem RwR.at {w0 : World} {n0 : Nat} {l : List (List Int)} {rv : Value} {W : World} (h : RwR w0 n0 l rv W) (hb : Below w0.heap.size w0 W) (hm : l.length ≤ 100000) : RowsAt W rv l := by
  obtain ⟨us, h0, h1, h2⟩ := h
  obtain ⟨a, c, rfl⟩ := row_slice h1
  refine ⟨a, c, rfl, by unfold maxLen; omega, fun hl => ?_⟩
  rcases h1.2 with ⟨-, e⟩ | ⟨g, cap, cur, e, -, -⟩
  · exact absurd (List.length_eq_zero_iff.1 e) hl
  · obtain ⟨rfl, rfl⟩ : a = some ⟨g, 0, none⟩ ∧ c = cap := by simpa using e
    refine ⟨g, 0, rfl, fun i x hi => ?_⟩
    obtain ⟨u, e1, e2⟩ := h2 i x hi
    have hc := h1.cells (g := g) rfl i u e1
    rw [Go.WideShapes.add_plain] at hc
    exact ⟨u, hc, e2.elim (fun q => q.step hb) ints_of_row⟩
theorem RwR.app {w0 W : World} {n0 g : Nat} {l l' : List (List Int)} {a : Option Addr} {c : Nat} {x : List Int} {u : Value} (h : RwR w0 n0 l (.slice a l.length c) W) (hx : BoxN W g #[u] 22) (h1 : IntsAt w0 u x ∨ W.ownsRow n0 3 1 u x.length (x.map (Value.int .i64))) (hl : l.length ≤ 100000) (hl' : l' = l ++ [x]) (hn : n0 ≤ W.heap.size) :
    ∃ (a' : Option Addr) (c' : Nat) (W' : World), (Builtin.append_ #[25, 25] 25 #[.slice a l.length c, .slice (some ⟨g, 0, none⟩) 1 1]).run Try.prog W = .ok (.slice a' l'.length c') W' ∧ Below n0 W W' ∧ RwR w0 n0 l' (.slice a' l'.length c') W' := by
  obtain ⟨us, h0, hown, hall⟩ := h
  have nx7 : ∀ j q, ([u] : List Value)[j]? = some q → W.cell? ((⟨g, 0, none⟩ : Addr).add j) = some q := World.news_of_block hx
  have o1 : ∀ q ∈ ([u] : List Value), q.oneCell' = true := by
    intro q hq
    rw [List.mem_singleton] at hq
    subst hq
    rcases h1 with h1 | h1
    · obtain ⟨a1, c1, e, -⟩ := h1; rw [e]; rfl
    · obtain ⟨a1, c1, e⟩ := row_slice h1; rw [e]; rfl
  obtain ⟨i0, hi, hz0, hz1, hz2⟩ := info_parts infoSl
  obtain ⟨v8, w8, hr8, ho8, hg8, -, -⟩ := run_append_own_at (P := Try.prog) W n0 25 25 22 i0 _ 1 24 Try.underlying25 hi hz0 hz1 hz2 rfl (by decide) (.slice a l.length c) l.length us hown ⟨g, 0, none⟩ 1 1 [u] rfl nx7 o1 (by unfold maxLen; omega) (by omega) hn
  have e1 : l'.length = l.length + 1 := by rw [hl']; simp
  obtain ⟨a', c', rfl⟩ := row_slice ho8
  have ap : ∀ {y : Value} {z : List Int}, W.ownsRow n0 3 1 y z.length (z.map (Value.int .i64)) → w8.ownsRow n0 3 1 y z.length (z.map (Value.int .i64)) := fun hy => row_grown hy hg8 (fun k e => row_type hy hown (by decide) e)
  refine ⟨a', c', w8, by rw [e1]; exact hr8, (Below.refl n0 W).grown hg8 hn (fun k e => row_own hown e), us ++ [u], by rw [e1]; simp [h0], by rw [e1]; exact ho8, fun i y hi => ?_⟩
  rw [hl'] at hi
  by_cases hlt : i < l.length
  · rw [List.getElem?_append_left hlt] at hi
    obtain ⟨a, e1, e2⟩ := hall i y hi
    exact ⟨a, by rw [List.getElem?_append_left (by omega)]; exact e1, e2.imp id ap⟩
  · have hi2 : i = l.length := by
      have := (List.getElem?_eq_some_iff.1 hi).1
      rw [List.length_append] at this
      simp at this
      omega
    subst hi2
    have hx : x = y := by simpa using hi
    subst hx
    exact ⟨u, by rw [← h0]; simp, h1.imp id ap⟩
theorem app_nilI {w : World} {base g sc : Nat} {sa : Option Addr} {l : List Int} (h : IntsAt w (.slice sa l.length sc) l) (hr : w.ownsRow base 3 1 (.slice (some ⟨g, 0, none⟩) 0 0) 0 []) (h9 : l.length ≤ 5000) (hl : base ≤ w.heap.size) :
    ∃ (a : Option Addr) (c : Nat) (w' : World), (Builtin.append_ #[22, 22] 22 #[.slice (some ⟨g, 0, none⟩) 0 0, .slice sa l.length sc]).run Try.prog w = .ok (.slice a l.length c) w' ∧ Below w.heap.size w w' ∧ w'.ownsRow base 3 1 (.slice a l.length c) l.length (l.map (Value.int .i64)) := by
  obtain ⟨i0, hi, hz0, hz1, hz2⟩ := info_parts infoInt
  have h2 := h
  obtain ⟨a, cap, hv, hm, hc⟩ := h2
  obtain ⟨rfl, rfl⟩ : sa = a ∧ sc = cap := by simpa using hv
  by_cases hL : l = []
  · subst hL
    refine ⟨some ⟨g, 0, none⟩, 0, w, ?_, Below.refl _ _, hr⟩
    cases sa <;> simp [Builtin.append_, run_underlying Try.underlying22, sizeOf, typeInfo, hi, Builtin.lenOf, Builtin.firstCells, storeCells, loadCells, loadCellsFrom]
  · obtain ⟨b1, o1, rfl, hx⟩ := hc hL
    have hpos : 0 < l.length := List.length_pos_iff.2 hL
    have hcs : ∀ j u, (l.map (Value.int .i64))[j]? = some u → w.cell? ((⟨b1, o1, none⟩ : Addr).add j) = some u := by
      intro j u hj
      rw [List.getElem?_map] at hj
      cases hq : l[j]? with
      | none => rw [hq] at hj; cases hj
      | some y =>
        rw [hq] at hj
        cases hj
        rw [Go.WideShapes.add_plain]
        exact hx j y hq
    have hone : ∀ q ∈ l.map (Value.int .i64), q.oneCell' = true := by
      intro q hq
      obtain ⟨y, -, rfl⟩ := List.mem_map.1 hq
      rfl
    obtain ⟨v', w', q1, q2, q3, -, -⟩ := run_append_own_at (P := Try.prog) w base 22 22 3 i0 _ 1 8 Try.underlying22 hi hz0 hz1 hz2 rfl (by decide) _ 0 [] hr ⟨b1, o1, none⟩ l.length sc (l.map (Value.int .i64)) (by simp) hcs hone (by unfold maxLen; omega) (by omega) hl
    have q4 := run_append_grow (P := Try.prog) (w := w) 22 22 3 i0 _ Try.underlying22 hi hz0 ⟨g, 0, none⟩ 0 0 [] (by simp) (fun j v hj => by simp at hj) ⟨b1, o1, none⟩ l.length sc (l.map (Value.int .i64)) (by rw [hz1]; simp) hcs (by omega) (by omega) (by rw [Nat.zero_add, nextslicecap_zero hpos, hz2]; omega)
    rw [q1] at q4
    obtain ⟨e1, e2⟩ : v' = _ ∧ w' = _ := by simpa using q4
    have q2' : w'.ownsRow base 3 1 v' l.length (l.map (Value.int .i64)) := by simpa using q2
    obtain ⟨a', c', e3⟩ := row_slice q2'
    rw [e3] at q1 q2'
    exact ⟨a', c', w', q1, by rw [e2]; exact (below_drew w.heap.size w).alloc (Nat.le_refl _) _, q2'⟩
def QoE (n0 : Nat) (b : Bool) (v : Value) (w : World) : Prop := ∃ g, v = .slice (some ⟨g, 0, none⟩) 0 0 ∧ (b = false → w.ownsRow n0 3 1 v 0 [])
theorem QoE.step {n0 : Nat} {b : Bool} {v : Value} {w w' : World} (h : QoE n0 b v w) (hb : Below w.heap.size w w') : QoE n0 b v w' := by
  obtain ⟨g, e, h⟩ := h
  exact ⟨g, e, fun q => row_step (h q) hb⟩
theorem QoE.put {n0 : Nat} {b : Bool} {v : Value} {w : World} (h : QoE n0 b v w) (w' : World) : QoE n0 true v w' := by
  obtain ⟨g, e, h⟩ := h
  exact ⟨g, e, fun q => by cases q⟩
/-- A slice of one slice. -/
def QeS (w0 : World) (n0 : Nat) (x : List Int) (b : Bool) (v : Value) (w : World) : Prop := ∃ g, v = .slice (some ⟨g, 0, none⟩) 1 1 ∧ (b = false → ∃ u, BoxN w g #[u] 22 ∧ (IntsAt w0 u x ∨ w.ownsRow n0 3 1 u x.length (x.map (Value.int .i64))))
theorem QeS.step {w0 : World} {n0 : Nat} {x : List Int} {b : Bool} {v : Value} {w w' : World} (h : QeS w0 n0 x b v w) (hb : Below w.heap.size w w') : QeS w0 n0 x b v w' := by
  obtain ⟨g, e, h⟩ := h
  exact ⟨g, e, fun q => by obtain ⟨u, h1, h2⟩ := h q; exact ⟨u, h1.step hb, h2.imp id fun q => row_step q hb⟩⟩
theorem QeS.put {w0 : World} {n0 : Nat} {x : List Int} {b : Bool} {v : Value} {w : World} (h : QeS w0 n0 x b v w) (w' : World) : QeS w0 n0 x true v w' := by
  obtain ⟨g, e, h⟩ := h
  exact ⟨g, e, fun q => by cases q⟩
/-- The row behind the append. -/
def QwZ (w0 : World) (n0 : Nat) (l : List (List Int)) (b : Bool) (v : Value) (w : World) : Prop := ∃ a c, v = .slice a l.length c ∧ (b = true → RwR w0 n0 l v w)
theorem QwZ.off {w0 : World} {n0 : Nat} {l : List (List Int)} {b : Bool} {v : Value} {w w' : World} (h : QwZ w0 n0 l b v w) (hd : b = false) : QwZ w0 n0 l b v w' := by
  obtain ⟨a, c, e, -⟩ := h
  exact ⟨a, c, e, fun q => absurd (q.symm.trans hd) (by simp)⟩
theorem QwZ.set {w0 : World} {n0 B : Nat} {l : List (List Int)} {b : Bool} {v : Value} {w : World} (h : QwZ w0 n0 l b v w) (hB : B < n0) (j : Nat) (u : Value) : QwZ w0 n0 l b v (w.setCell ⟨B, j, none⟩ u) := by
  obtain ⟨a, c, e, h⟩ := h
  exact ⟨a, c, e, fun q => (h q).set hB j u⟩
theorem set_take {L : List (List Int)} {i k : Nat} {d : List Int} (h : k < L.length) : (L.set i d).take (k + 1) = (L.set i d).take k ++ [if i = k then d else L.getD k []] := by
  rw [List.take_succ_eq_append_getElem (by simpa using h), List.getElem_set]
  by_cases e : i = k
  · rw [if_pos e, if_pos e]
  · rw [if_neg e, if_neg e, List.getD_eq_getElem?_getD, List.getElem?_eq_getElem h]; rfl
set_option maxRecDepth 100000 in
set_option maxHeartbeats 8000000 in
theorem radd_a (m : Mf) (i : Int) (v : Value) (L : List (List Int)) (vd : Value) (d : List Int) (vp : Value) (p : List Int) (w : World) (h : RowsAt w v L) (hd : IntsAt w vd d) (hp : IntsAt w vp p) (h9 : L.length ≤ 1000) (h8 : ∀ x ∈ L, x.length ≤ 1000) (_ : d.length ≤ 1000) (hp9 : p.length ≤ 1000) (hsl : slB m L = false) : Calls Try.prog 16 #[.agg #[.int .i64 m.v, .int .i64 m.c, .int .i64 m.s, .int .i64 m.r, .int .i64 m.t, v], .agg #[.int .i64 (i : Int), vd, vp]] w (ChS m L 1 w) := by
  have HSL := Lib.hid hsl
  clear hsl
  obtain ⟨va, vc, rfl, -, -⟩ : ∃ (a : Option Addr) (c : Nat), v = .slice a L.length c ∧ True ∧ True := by
    obtain ⟨a, c, e, -⟩ := h
    exact ⟨a, c, e, trivial, trivial⟩
  obtain ⟨da, dc, rfl, -, -⟩ : ∃ (a : Option Addr) (c : Nat), vd = .slice a d.length c ∧ True ∧ True := by
    obtain ⟨a, c, e, -⟩ := hd
    exact ⟨a, c, e, trivial, trivial⟩
  obtain ⟨pa, pc, rfl, -⟩ : ∃ (a : Option Addr) (c : Nat), vp = .slice a p.length c ∧ True := by
    obtain ⟨a, c, e, -⟩ := hp
    exact ⟨a, c, e, trivial⟩
  have HLW := Lib.hid h
  have HDW := Lib.hid hd
  have HPW := Lib.hid hp
  have HLN := Lib.hid h9
  have HLM := Lib.hid h8
  have HP9 := Lib.hid hp9
  have H0 := Lib.hid (Below.refl w.heap.size w)
  clear h hd hp h9 h8 hp9
  have H1 := Lib.hid (Cs.newB H0.out (w.heap.size) #[.int .i64 m.v, .int .i64 m.c, .int .i64 m.s, .int .i64 m.r, .int .i64 m.t, .slice va L.length vc] 27 (by simp))
  have H2 := Lib.hid (keep2 (al _ (.cells #[.int .i64 m.v, .int .i64 m.c, .int .i64 m.s, .int .i64 m.r, .int .i64 m.t, .slice va L.length vc] 27)) H0.out)
  clear H0
  have H3 := Lib.hid (Cs.newB H2.out (w.heap.size + 1) #[.int .i64 (i : Int), .slice da d.length dc, .slice pa p.length pc] 29 (by simp))
  have H4 := Lib.hid (H1.out.step (al _ (.cells #[.int .i64 (i : Int), .slice da d.length dc, .slice pa p.length pc] 29)))
  clear H1
  have H5 := Lib.hid (keep2 (al _ (.cells #[.int .i64 (i : Int), .slice da d.length dc, .slice pa p.length pc] 29)) H2.out)
  clear H2
  have H6 := Lib.hid (Cs.newB H5.out (w.heap.size + 1 + 1) #[.int .i64 0, .int .i64 0, .int .i64 0, .int .i64 0, .int .i64 0, .slice none 0 0] 27 (by simp))
  have H7 := Lib.hid (H4.out.step (al _ (.cells #[.int .i64 0, .int .i64 0, .int .i64 0, .int .i64 0, .int .i64 0, .slice none 0 0] 27)))
  clear H4
  have H8 := Lib.hid (H3.out.step (al _ (.cells #[.int .i64 0, .int .i64 0, .int .i64 0, .int .i64 0, .int .i64 0, .slice none 0 0] 27)))
  clear H3
  have H9 := Lib.hid (keep2 (al _ (.cells #[.int .i64 0, .int .i64 0, .int .i64 0, .int .i64 0, .int .i64 0, .slice none 0 0] 27)) H5.out)
  clear H5
  go_enter Try.func16, Try.ntmps16
  have xs0 := H7.out.c 0 rfl
  have xs1 := H7.out.c 1 rfl
  have xs2 := H7.out.c 2 rfl
  have xs3 := H7.out.c 3 rfl
  have xs4 := H7.out.c 4 rfl
  have xs5 := H7.out.c 5 rfl
  have zs := H7.out.2.2
  have xp0 := H8.out.c 0 rfl
  have xp1 := H8.out.c 1 rfl
  have xp2 := H8.out.c 2 rfl
  have zp := H8.out.2.2
  have xr0 := H6.out.c 0 rfl
  have xr1 := H6.out.c 1 rfl
  have xr2 := H6.out.c 2 rfl
  have xr3 := H6.out.c 3 rfl
  have xr4 := H6.out.c 4 rfl
  have xr5 := H6.out.c 5 rfl
  have zr := H6.out.2.2
  go_wp2_with fail
  refine (rslot_any m _ L _ (HLW.out.step H9.out) HLN.out HLM.out).mono ?_
  rintro e u1 ⟨rfl, b1⟩
  clear xs0 xs1 xs2 xs3 xs4 xs5 zs xp0 xp1 xp2 zp xr0 xr1 xr2 xr3 xr4 xr5 zr
  have H10 := Lib.hid (H7.out.step b1)
  clear H7
  have H11 := Lib.hid (H8.out.step b1)
  clear H8
  have H12 := Lib.hid (H6.out.step b1)
  clear H6
  have H13 := Lib.hid (keep2 b1 H9.out)
  clear H9
  clear b1
  rw [HSL.out]
  have xs0 := H10.out.c 0 rfl
  have xs1 := H10.out.c 1 rfl
  have xs2 := H10.out.c 2 rfl
  have xs3 := H10.out.c 3 rfl
  have xs4 := H10.out.c 4 rfl
  have xs5 := H10.out.c 5 rfl
  have zs := H10.out.2.2
  have xr0 := H12.out.c 0 rfl
  have xr1 := H12.out.c 1 rfl
  have xr2 := H12.out.c 2 rfl
  have xr3 := H12.out.c 3 rfl
  have xr4 := H12.out.c 4 rfl
  have xr5 := H12.out.c 5 rfl
  have zr := H12.out.2.2
  have fr0 := H12.out.f 0 (by simp)
  have fr1 := H12.out.f 1 (by simp)
  have fr2 := H12.out.f 2 (by simp)
  have fr3 := H12.out.f 3 (by simp)
  have fr4 := H12.out.f 4 (by simp)
  have fr5 := H12.out.f 5 (by simp)
  have HLE := Lib.hid (show w.heap.size ≤ (w.heap.size + 1 + 1) from by omega)
  have q90 := Lib.hid (Cs.set H12.out 0 (by simp) (.int .i64 m.v) (vs' := #[.int .i64 m.v, .int .i64 0, .int .i64 0, .int .i64 0, .int .i64 0, .slice none 0 0]) rfl)
  have q91 := Lib.hid (Cs.set q90.out 1 (by simp) (.int .i64 m.c) (vs' := #[.int .i64 m.v, .int .i64 m.c, .int .i64 0, .int .i64 0, .int .i64 0, .slice none 0 0]) rfl)
  have q92 := Lib.hid (Cs.set q91.out 2 (by simp) (.int .i64 m.s) (vs' := #[.int .i64 m.v, .int .i64 m.c, .int .i64 m.s, .int .i64 0, .int .i64 0, .slice none 0 0]) rfl)
  have q93 := Lib.hid (Cs.set q92.out 3 (by simp) (.int .i64 m.r) (vs' := #[.int .i64 m.v, .int .i64 m.c, .int .i64 m.s, .int .i64 m.r, .int .i64 0, .slice none 0 0]) rfl)
  have q94 := Lib.hid (Cs.set q93.out 4 (by simp) (.int .i64 m.t) (vs' := #[.int .i64 m.v, .int .i64 m.c, .int .i64 m.s, .int .i64 m.r, .int .i64 m.t, .slice none 0 0]) rfl)
  have q95 := Lib.hid (Cs.set q94.out 5 (by simp) (.slice va L.length vc) (vs' := #[.int .i64 m.v, .int .i64 m.c, .int .i64 m.s, .int .i64 m.r, .int .i64 m.t, .slice va L.length vc]) rfl)
  clear q90 q91 q92 q93 q94
  go_wp2
  have hC := q95.out
  have hB := ((((((H13.out.setCell (p := ⟨(w.heap.size + 1 + 1), 0, none⟩) HLE.out (.int .i64 m.v)).setCell (p := ⟨(w.heap.size + 1 + 1), 1, none⟩) HLE.out (.int .i64 m.c)).setCell (p := ⟨(w.heap.size + 1 + 1), 2, none⟩) HLE.out (.int .i64 m.s)).setCell (p := ⟨(w.heap.size + 1 + 1), 3, none⟩) HLE.out (.int .i64 m.r)).setCell (p := ⟨(w.heap.size + 1 + 1), 4, none⟩) HLE.out (.int .i64 m.t)).setCell (p := ⟨(w.heap.size + 1 + 1), 5, none⟩) HLE.out (.slice va L.length vc))
  obtain ⟨V9, hV9⟩ : ∃ z9, ((((((u1.setCell ⟨(w.heap.size + 1 + 1), 0, none⟩ (.int .i64 m.v)).setCell ⟨(w.heap.size + 1 + 1), 1, none⟩ (.int .i64 m.c)).setCell ⟨(w.heap.size + 1 + 1), 2, none⟩ (.int .i64 m.s)).setCell ⟨(w.heap.size + 1 + 1), 3, none⟩ (.int .i64 m.r)).setCell ⟨(w.heap.size + 1 + 1), 4, none⟩ (.int .i64 m.t)).setCell ⟨(w.heap.size + 1 + 1), 5, none⟩ (.slice va L.length vc)) = z9 := ⟨_, rfl⟩
  rw [hV9] at hC hB ⊢
  clear hV9
  have k0 : V9.cell? ⟨(w.heap.size + 1 + 1), 0, none⟩ = some (.int .i64 m.v) := hC.c 0 rfl
  have k1 : V9.cell? ⟨(w.heap.size + 1 + 1), 1, none⟩ = some (.int .i64 m.c) := hC.c 1 rfl
  have k2 : V9.cell? ⟨(w.heap.size + 1 + 1), 2, none⟩ = some (.int .i64 m.s) := hC.c 2 rfl
  have k3 : V9.cell? ⟨(w.heap.size + 1 + 1), 3, none⟩ = some (.int .i64 m.r) := hC.c 3 rfl
  have k4 : V9.cell? ⟨(w.heap.size + 1 + 1), 4, none⟩ = some (.int .i64 m.t) := hC.c 4 rfl
  have k5 : V9.cell? ⟨(w.heap.size + 1 + 1), 5, none⟩ = some (.slice va L.length vc) := hC.c 5 rfl
  exact bodyPost_ret (v := .tuple #[.agg #[.int .i64 m.v, .int .i64 m.c, .int .i64 m.s, .int .i64 m.r, .int .i64 m.t, .slice va L.length vc], .int .i64 1]) (by simp [results, Try.results16, go_sem, k0, k1, k2, k3, k4, k5]) rfl (⟨_, rfl, HLW.out.step hB, hB⟩)
set_option maxRecDepth 100000 in
set_option maxHeartbeats 8000000 in
theorem radd_f1 (m : Mf) (i : Int) (v : Value) (L : List (List Int)) (vd : Value) (d : List Int) (vp : Value) (p : List Int) (w : World) (h : RowsAt w v L) (hd : IntsAt w vd d) (hp : IntsAt w vp p) (h9 : L.length ≤ 1000) (h8 : ∀ x ∈ L, x.length ≤ 1000) (_ : d.length ≤ 1000) (hp9 : p.length ≤ 1000) (hsl : slB m L = true) (hin : inB 0 (m.c - 1) i = false) : Calls Try.prog 16 #[.agg #[.int .i64 m.v, .int .i64 m.c, .int .i64 m.s, .int .i64 m.r, .int .i64 m.t, v], .agg #[.int .i64 (i : Int), vd, vp]] w (ChS m L 24 w) := by
  have HSL := Lib.hid hsl
  have HMF := Lib.hid (sl_mf hsl)
  have HIN := Lib.hid hin
  clear hsl hin
  obtain ⟨va, vc, rfl, -, -⟩ : ∃ (a : Option Addr) (c : Nat), v = .slice a L.length c ∧ True ∧ True := by
    obtain ⟨a, c, e, -⟩ := h
    exact ⟨a, c, e, trivial, trivial⟩
  obtain ⟨da, dc, rfl, -, -⟩ : ∃ (a : Option Addr) (c : Nat), vd = .slice a d.length c ∧ True ∧ True := by
    obtain ⟨a, c, e, -⟩ := hd
    exact ⟨a, c, e, trivial, trivial⟩
  obtain ⟨pa, pc, rfl, -⟩ : ∃ (a : Option Addr) (c : Nat), vp = .slice a p.length c ∧ True := by
    obtain ⟨a, c, e, -⟩ := hp
    exact ⟨a, c, e, trivial⟩
  have HLW := Lib.hid h
  have HDW := Lib.hid hd
  have HPW := Lib.hid hp
  have HLN := Lib.hid h9
  have HLM := Lib.hid h8
  have HP9 := Lib.hid hp9
  have H0 := Lib.hid (Below.refl w.heap.size w)
  clear h hd hp h9 h8 hp9
  have H1 := Lib.hid (Cs.newB H0.out (w.heap.size) #[.int .i64 m.v, .int .i64 m.c, .int .i64 m.s, .int .i64 m.r, .int .i64 m.t, .slice va L.length vc] 27 (by simp))
  have H2 := Lib.hid (keep2 (al _ (.cells #[.int .i64 m.v, .int .i64 m.c, .int .i64 m.s, .int .i64 m.r, .int .i64 m.t, .slice va L.length vc] 27)) H0.out)
  clear H0
  have H3 := Lib.hid (Cs.newB H2.out (w.heap.size + 1) #[.int .i64 (i : Int), .slice da d.length dc, .slice pa p.length pc] 29 (by simp))
  have H4 := Lib.hid (H1.out.step (al _ (.cells #[.int .i64 (i : Int), .slice da d.length dc, .slice pa p.length pc] 29)))
  clear H1
  have H5 := Lib.hid (keep2 (al _ (.cells #[.int .i64 (i : Int), .slice da d.length dc, .slice pa p.length pc] 29)) H2.out)
  clear H2
  have H6 := Lib.hid (Cs.newB H5.out (w.heap.size + 1 + 1) #[.int .i64 0, .int .i64 0, .int .i64 0, .int .i64 0, .int .i64 0, .slice none 0 0] 27 (by simp))
  have H7 := Lib.hid (H4.out.step (al _ (.cells #[.int .i64 0, .int .i64 0, .int .i64 0, .int .i64 0, .int .i64 0, .slice none 0 0] 27)))
  clear H4
  have H8 := Lib.hid (H3.out.step (al _ (.cells #[.int .i64 0, .int .i64 0, .int .i64 0, .int .i64 0, .int .i64 0, .slice none 0 0] 27)))
  clear H3
  have H9 := Lib.hid (keep2 (al _ (.cells #[.int .i64 0, .int .i64 0, .int .i64 0, .int .i64 0, .int .i64 0, .slice none 0 0] 27)) H5.out)
  clear H5
  go_enter Try.func16, Try.ntmps16
  have xs0 := H7.out.c 0 rfl
  have xs1 := H7.out.c 1 rfl
  have xs2 := H7.out.c 2 rfl
  have xs3 := H7.out.c 3 rfl
  have xs4 := H7.out.c 4 rfl
  have xs5 := H7.out.c 5 rfl
  have zs := H7.out.2.2
  have xp0 := H8.out.c 0 rfl
  have xp1 := H8.out.c 1 rfl
  have xp2 := H8.out.c 2 rfl
  have zp := H8.out.2.2
  have xr0 := H6.out.c 0 rfl
  have xr1 := H6.out.c 1 rfl
  have xr2 := H6.out.c 2 rfl
  have xr3 := H6.out.c 3 rfl
  have xr4 := H6.out.c 4 rfl
  have xr5 := H6.out.c 5 rfl
  have zr := H6.out.2.2
  go_wp2_with fail
  refine (rslot_any m _ L _ (HLW.out.step H9.out) HLN.out HLM.out).mono ?_
  rintro e u1 ⟨rfl, b1⟩
  clear xs0 xs1 xs2 xs3 xs4 xs5 zs xp0 xp1 xp2 zp xr0 xr1 xr2 xr3 xr4 xr5 zr
  have H10 := Lib.hid (H7.out.step b1)
  clear H7
  have H11 := Lib.hid (H8.out.step b1)
  clear H8
  have H12 := Lib.hid (H6.out.step b1)
  clear H6
  have H13 := Lib.hid (keep2 b1 H9.out)
  clear H9
  clear b1
  rw [HSL.out]
  have hw : wrap64 (m.c - 1) = m.c - 1 := IntWalk.wrap64_in _ (by have := (mfB_parts HMF.out).2.1; omega)
  have xqs0 := H10.out.c 0 rfl
  have xqs1 := H10.out.c 1 rfl
  have xqs2 := H10.out.c 2 rfl
  have xqs3 := H10.out.c 3 rfl
  have xqs4 := H10.out.c 4 rfl
  have xqs5 := H10.out.c 5 rfl
  have zqs := H10.out.2.2
  have H14 := Lib.hid (Cs.newB H13.out (u1.heap.size) #[.int .i64 m.v, .int .i64 m.c, .int .i64 m.s, .int .i64 m.r, .int .i64 m.t] 24 (by simp))
  have H15 := Lib.hid (H10.out.step (al _ (.cells #[.int .i64 m.v, .int .i64 m.c, .int .i64 m.s, .int .i64 m.r, .int .i64 m.t] 24)))
  clear H10
  have H16 := Lib.hid (H11.out.step (al _ (.cells #[.int .i64 m.v, .int .i64 m.c, .int .i64 m.s, .int .i64 m.r, .int .i64 m.t] 24)))
  clear H11
  have H17 := Lib.hid (H12.out.step (al _ (.cells #[.int .i64 m.v, .int .i64 m.c, .int .i64 m.s, .int .i64 m.r, .int .i64 m.t] 24)))
  clear H12
  have H18 := Lib.hid (keep2 (al _ (.cells #[.int .i64 m.v, .int .i64 m.c, .int .i64 m.s, .int .i64 m.r, .int .i64 m.t] 24)) H13.out)
  clear H13
  have xp0 := H16.out.c 0 rfl
  have xp1 := H16.out.c 1 rfl
  have xp2 := H16.out.c 2 rfl
  have zp := H16.out.2.2
  have xm0 := H14.out.c 0 rfl
  have xm1 := H14.out.c 1 rfl
  have xm2 := H14.out.c 2 rfl
  have xm3 := H14.out.c 3 rfl
  have xm4 := H14.out.c 4 rfl
  have zm := H14.out.2.2
  go_wp2_with fail
  refine (rbtw_any i 0 (m.c - 1) _).mono ?_
  rintro e wq19 ⟨rfl, rfl⟩
  rw [HIN.out]
  clear hw
  clear xqs0 xqs1 xqs2 xqs3 xqs4 xqs5 zqs xp0 xp1 xp2 zp xm0 xm1 xm2 xm3 xm4 zm
  obtain ⟨U1, hU1⟩ : ∃ z9, (u1.alloc (.cells #[.int .i64 m.v, .int .i64 m.c, .int .i64 m.s, .int .i64 m.r, .int .i64 m.t] 24)) = z9 := ⟨_, rfl⟩
  rw [hU1] at H15 H16 H17 H14 H18 ⊢
  clear hU1
  have xs0 := H15.out.c 0 rfl
  have xs1 := H15.out.c 1 rfl
  have xs2 := H15.out.c 2 rfl
  have xs3 := H15.out.c 3 rfl
  have xs4 := H15.out.c 4 rfl
  have xs5 := H15.out.c 5 rfl
  have zs := H15.out.2.2
  have xr0 := H17.out.c 0 rfl
  have xr1 := H17.out.c 1 rfl
  have xr2 := H17.out.c 2 rfl
  have xr3 := H17.out.c 3 rfl
  have xr4 := H17.out.c 4 rfl
  have xr5 := H17.out.c 5 rfl
  have zr := H17.out.2.2
  have fr0 := H17.out.f 0 (by simp)
  have fr1 := H17.out.f 1 (by simp)
  have fr2 := H17.out.f 2 (by simp)
  have fr3 := H17.out.f 3 (by simp)
  have fr4 := H17.out.f 4 (by simp)
  have fr5 := H17.out.f 5 (by simp)
  have HLE := Lib.hid (show w.heap.size ≤ (w.heap.size + 1 + 1) from by omega)
  have q90 := Lib.hid (Cs.set H17.out 0 (by simp) (.int .i64 m.v) (vs' := #[.int .i64 m.v, .int .i64 0, .int .i64 0, .int .i64 0, .int .i64 0, .slice none 0 0]) rfl)
  have q91 := Lib.hid (Cs.set q90.out 1 (by simp) (.int .i64 m.c) (vs' := #[.int .i64 m.v, .int .i64 m.c, .int .i64 0, .int .i64 0, .int .i64 0, .slice none 0 0]) rfl)
  have q92 := Lib.hid (Cs.set q91.out 2 (by simp) (.int .i64 m.s) (vs' := #[.int .i64 m.v, .int .i64 m.c, .int .i64 m.s, .int .i64 0, .int .i64 0, .slice none 0 0]) rfl)
  have q93 := Lib.hid (Cs.set q92.out 3 (by simp) (.int .i64 m.r) (vs' := #[.int .i64 m.v, .int .i64 m.c, .int .i64 m.s, .int .i64 m.r, .int .i64 0, .slice none 0 0]) rfl)
  have q94 := Lib.hid (Cs.set q93.out 4 (by simp) (.int .i64 m.t) (vs' := #[.int .i64 m.v, .int .i64 m.c, .int .i64 m.s, .int .i64 m.r, .int .i64 m.t, .slice none 0 0]) rfl)
  have q95 := Lib.hid (Cs.set q94.out 5 (by simp) (.slice va L.length vc) (vs' := #[.int .i64 m.v, .int .i64 m.c, .int .i64 m.s, .int .i64 m.r, .int .i64 m.t, .slice va L.length vc]) rfl)
  clear q90 q91 q92 q93 q94
  go_wp2
  have hC := q95.out
  have hB := ((((((H18.out.setCell (p := ⟨(w.heap.size + 1 + 1), 0, none⟩) HLE.out (.int .i64 m.v)).setCell (p := ⟨(w.heap.size + 1 + 1), 1, none⟩) HLE.out (.int .i64 m.c)).setCell (p := ⟨(w.heap.size + 1 + 1), 2, none⟩) HLE.out (.int .i64 m.s)).setCell (p := ⟨(w.heap.size + 1 + 1), 3, none⟩) HLE.out (.int .i64 m.r)).setCell (p := ⟨(w.heap.size + 1 + 1), 4, none⟩) HLE.out (.int .i64 m.t)).setCell (p := ⟨(w.heap.size + 1 + 1), 5, none⟩) HLE.out (.slice va L.length vc))
  obtain ⟨V9, hV9⟩ : ∃ z9, ((((((U1.setCell ⟨(w.heap.size + 1 + 1), 0, none⟩ (.int .i64 m.v)).setCell ⟨(w.heap.size + 1 + 1), 1, none⟩ (.int .i64 m.c)).setCell ⟨(w.heap.size + 1 + 1), 2, none⟩ (.int .i64 m.s)).setCell ⟨(w.heap.size + 1 + 1), 3, none⟩ (.int .i64 m.r)).setCell ⟨(w.heap.size + 1 + 1), 4, none⟩ (.int .i64 m.t)).setCell ⟨(w.heap.size + 1 + 1), 5, none⟩ (.slice va L.length vc)) = z9 := ⟨_, rfl⟩
  rw [hV9] at hC hB ⊢
  clear hV9
  have k0 : V9.cell? ⟨(w.heap.size + 1 + 1), 0, none⟩ = some (.int .i64 m.v) := hC.c 0 rfl
  have k1 : V9.cell? ⟨(w.heap.size + 1 + 1), 1, none⟩ = some (.int .i64 m.c) := hC.c 1 rfl
  have k2 : V9.cell? ⟨(w.heap.size + 1 + 1), 2, none⟩ = some (.int .i64 m.s) := hC.c 2 rfl
  have k3 : V9.cell? ⟨(w.heap.size + 1 + 1), 3, none⟩ = some (.int .i64 m.r) := hC.c 3 rfl
  have k4 : V9.cell? ⟨(w.heap.size + 1 + 1), 4, none⟩ = some (.int .i64 m.t) := hC.c 4 rfl
  have k5 : V9.cell? ⟨(w.heap.size + 1 + 1), 5, none⟩ = some (.slice va L.length vc) := hC.c 5 rfl
  exact bodyPost_ret (v := .tuple #[.agg #[.int .i64 m.v, .int .i64 m.c, .int .i64 m.s, .int .i64 m.r, .int .i64 m.t, .slice va L.length vc], .int .i64 24]) (by simp [results, Try.results16, go_sem, k0, k1, k2, k3, k4, k5]) rfl (⟨_, rfl, HLW.out.step hB, hB⟩)
set_option maxRecDepth 100000 in
set_option maxHeartbeats 8000000 in
theorem radd_f2 (m : Mf) (i : Int) (v : Value) (L : List (List Int)) (vd : Value) (d : List Int) (vp : Value) (p : List Int) (w : World) (h : RowsAt w v L) (hd : IntsAt w vd d) (hp : IntsAt w vp p) (h9 : L.length ≤ 1000) (h8 : ∀ x ∈ L, x.length ≤ 1000) (_ : d.length ≤ 1000) (hp9 : p.length ≤ 1000) (hsl : slB m L = true) (hin : inB 0 (m.c - 1) i = true) (hft : ftB m i d = false) : Calls Try.prog 16 #[.agg #[.int .i64 m.v, .int .i64 m.c, .int .i64 m.s, .int .i64 m.r, .int .i64 m.t, v], .agg #[.int .i64 (i : Int), vd, vp]] w (ChS m L 24 w) := by
  have HSL := Lib.hid hsl
  have HMF := Lib.hid (sl_mf hsl)
  have HIN := Lib.hid hin
  have HFT := Lib.hid hft
  clear hsl hin hft
  obtain ⟨va, vc, rfl, -, -⟩ : ∃ (a : Option Addr) (c : Nat), v = .slice a L.length c ∧ True ∧ True := by
    obtain ⟨a, c, e, -⟩ := h
    exact ⟨a, c, e, trivial, trivial⟩
  obtain ⟨da, dc, rfl, -, -⟩ : ∃ (a : Option Addr) (c : Nat), vd = .slice a d.length c ∧ True ∧ True := by
    obtain ⟨a, c, e, -⟩ := hd
    exact ⟨a, c, e, trivial, trivial⟩
  obtain ⟨pa, pc, rfl, -⟩ : ∃ (a : Option Addr) (c : Nat), vp = .slice a p.length c ∧ True := by
    obtain ⟨a, c, e, -⟩ := hp
    exact ⟨a, c, e, trivial⟩
  have HLW := Lib.hid h
  have HDW := Lib.hid hd
  have HPW := Lib.hid hp
  have HLN := Lib.hid h9
  have HLM := Lib.hid h8
  have HP9 := Lib.hid hp9
  have H0 := Lib.hid (Below.refl w.heap.size w)
  clear h hd hp h9 h8 hp9
  have H1 := Lib.hid (Cs.newB H0.out (w.heap.size) #[.int .i64 m.v, .int .i64 m.c, .int .i64 m.s, .int .i64 m.r, .int .i64 m.t, .slice va L.length vc] 27 (by simp))
  have H2 := Lib.hid (keep2 (al _ (.cells #[.int .i64 m.v, .int .i64 m.c, .int .i64 m.s, .int .i64 m.r, .int .i64 m.t, .slice va L.length vc] 27)) H0.out)
  clear H0
  have H3 := Lib.hid (Cs.newB H2.out (w.heap.size + 1) #[.int .i64 (i : Int), .slice da d.length dc, .slice pa p.length pc] 29 (by simp))
  have H4 := Lib.hid (H1.out.step (al _ (.cells #[.int .i64 (i : Int), .slice da d.length dc, .slice pa p.length pc] 29)))
  clear H1
  have H5 := Lib.hid (keep2 (al _ (.cells #[.int .i64 (i : Int), .slice da d.length dc, .slice pa p.length pc] 29)) H2.out)
  clear H2
  have H6 := Lib.hid (Cs.newB H5.out (w.heap.size + 1 + 1) #[.int .i64 0, .int .i64 0, .int .i64 0, .int .i64 0, .int .i64 0, .slice none 0 0] 27 (by simp))
  have H7 := Lib.hid (H4.out.step (al _ (.cells #[.int .i64 0, .int .i64 0, .int .i64 0, .int .i64 0, .int .i64 0, .slice none 0 0] 27)))
  clear H4
  have H8 := Lib.hid (H3.out.step (al _ (.cells #[.int .i64 0, .int .i64 0, .int .i64 0, .int .i64 0, .int .i64 0, .slice none 0 0] 27)))
  clear H3
  have H9 := Lib.hid (keep2 (al _ (.cells #[.int .i64 0, .int .i64 0, .int .i64 0, .int .i64 0, .int .i64 0, .slice none 0 0] 27)) H5.out)
  clear H5
  go_enter Try.func16, Try.ntmps16
  have xs0 := H7.out.c 0 rfl
  have xs1 := H7.out.c 1 rfl
  have xs2 := H7.out.c 2 rfl
  have xs3 := H7.out.c 3 rfl
  have xs4 := H7.out.c 4 rfl
  have xs5 := H7.out.c 5 rfl
  have zs := H7.out.2.2
  have xp0 := H8.out.c 0 rfl
  have xp1 := H8.out.c 1 rfl
  have xp2 := H8.out.c 2 rfl
  have zp := H8.out.2.2
  have xr0 := H6.out.c 0 rfl
  have xr1 := H6.out.c 1 rfl
  have xr2 := H6.out.c 2 rfl
  have xr3 := H6.out.c 3 rfl
  have xr4 := H6.out.c 4 rfl
  have xr5 := H6.out.c 5 rfl
  have zr := H6.out.2.2
  go_wp2_with fail
  refine (rslot_any m _ L _ (HLW.out.step H9.out) HLN.out HLM.out).mono ?_
  rintro e u1 ⟨rfl, b1⟩
  clear xs0 xs1 xs2 xs3 xs4 xs5 zs xp0 xp1 xp2 zp xr0 xr1 xr2 xr3 xr4 xr5 zr
  have H10 := Lib.hid (H7.out.step b1)
  clear H7
  have H11 := Lib.hid (H8.out.step b1)
  clear H8
  have H12 := Lib.hid (H6.out.step b1)
  clear H6
  have H13 := Lib.hid (keep2 b1 H9.out)
  clear H9
  clear b1
  rw [HSL.out]
  have hw : wrap64 (m.c - 1) = m.c - 1 := IntWalk.wrap64_in _ (by have := (mfB_parts HMF.out).2.1; omega)
  have xqs0 := H10.out.c 0 rfl
  have xqs1 := H10.out.c 1 rfl
  have xqs2 := H10.out.c 2 rfl
  have xqs3 := H10.out.c 3 rfl
  have xqs4 := H10.out.c 4 rfl
  have xqs5 := H10.out.c 5 rfl
  have zqs := H10.out.2.2
  have H14 := Lib.hid (Cs.newB H13.out (u1.heap.size) #[.int .i64 m.v, .int .i64 m.c, .int .i64 m.s, .int .i64 m.r, .int .i64 m.t] 24 (by simp))
  have H15 := Lib.hid (H10.out.step (al _ (.cells #[.int .i64 m.v, .int .i64 m.c, .int .i64 m.s, .int .i64 m.r, .int .i64 m.t] 24)))
  clear H10
  have H16 := Lib.hid (H11.out.step (al _ (.cells #[.int .i64 m.v, .int .i64 m.c, .int .i64 m.s, .int .i64 m.r, .int .i64 m.t] 24)))
  clear H11
  have H17 := Lib.hid (H12.out.step (al _ (.cells #[.int .i64 m.v, .int .i64 m.c, .int .i64 m.s, .int .i64 m.r, .int .i64 m.t] 24)))
  clear H12
  have H18 := Lib.hid (keep2 (al _ (.cells #[.int .i64 m.v, .int .i64 m.c, .int .i64 m.s, .int .i64 m.r, .int .i64 m.t] 24)) H13.out)
  clear H13
  have xp0 := H16.out.c 0 rfl
  have xp1 := H16.out.c 1 rfl
  have xp2 := H16.out.c 2 rfl
  have zp := H16.out.2.2
  have xm0 := H14.out.c 0 rfl
  have xm1 := H14.out.c 1 rfl
  have xm2 := H14.out.c 2 rfl
  have xm3 := H14.out.c 3 rfl
  have xm4 := H14.out.c 4 rfl
  have zm := H14.out.2.2
  go_wp2_with fail
  refine (rbtw_any i 0 (m.c - 1) _).mono ?_
  rintro e wq19 ⟨rfl, rfl⟩
  rw [HIN.out]
  clear hw
  go_wp2_with fail
  refine (rfits_any m _ _ d _ (HDW.out.step H18.out) HMF.out HIN.out).mono ?_
  rintro e u2 ⟨rfl, b2⟩
  clear xqs0 xqs1 xqs2 xqs3 xqs4 xqs5 zqs xp0 xp1 xp2 zp xm0 xm1 xm2 xm3 xm4 zm
  have H20 := Lib.hid (H15.out.step b2)
  clear H15
  have H21 := Lib.hid (H16.out.step b2)
  clear H16
  have H22 := Lib.hid (H17.out.step b2)
  clear H17
  have H23 := Lib.hid (H14.out.step b2)
  clear H14
  have H24 := Lib.hid (keep2 b2 H18.out)
  clear H18
  clear b2
  rw [HFT.out]
  have xs0 := H20.out.c 0 rfl
  have xs1 := H20.out.c 1 rfl
  have xs2 := H20.out.c 2 rfl
  have xs3 := H20.out.c 3 rfl
  have xs4 := H20.out.c 4 rfl
  have xs5 := H20.out.c 5 rfl
  have zs := H20.out.2.2
  have xr0 := H22.out.c 0 rfl
  have xr1 := H22.out.c 1 rfl
  have xr2 := H22.out.c 2 rfl
  have xr3 := H22.out.c 3 rfl
  have xr4 := H22.out.c 4 rfl
  have xr5 := H22.out.c 5 rfl
  have zr := H22.out.2.2
  have fr0 := H22.out.f 0 (by simp)
  have fr1 := H22.out.f 1 (by simp)
  have fr2 := H22.out.f 2 (by simp)
  have fr3 := H22.out.f 3 (by simp)
  have fr4 := H22.out.f 4 (by simp)
  have fr5 := H22.out.f 5 (by simp)
  have HLE := Lib.hid (show w.heap.size ≤ (w.heap.size + 1 + 1) from by omega)
  have q90 := Lib.hid (Cs.set H22.out 0 (by simp) (.int .i64 m.v) (vs' := #[.int .i64 m.v, .int .i64 0, .int .i64 0, .int .i64 0, .int .i64 0, .slice none 0 0]) rfl)
  have q91 := Lib.hid (Cs.set q90.out 1 (by simp) (.int .i64 m.c) (vs' := #[.int .i64 m.v, .int .i64 m.c, .int .i64 0, .int .i64 0, .int .i64 0, .slice none 0 0]) rfl)
  have q92 := Lib.hid (Cs.set q91.out 2 (by simp) (.int .i64 m.s) (vs' := #[.int .i64 m.v, .int .i64 m.c, .int .i64 m.s, .int .i64 0, .int .i64 0, .slice none 0 0]) rfl)
  have q93 := Lib.hid (Cs.set q92.out 3 (by simp) (.int .i64 m.r) (vs' := #[.int .i64 m.v, .int .i64 m.c, .int .i64 m.s, .int .i64 m.r, .int .i64 0, .slice none 0 0]) rfl)
  have q94 := Lib.hid (Cs.set q93.out 4 (by simp) (.int .i64 m.t) (vs' := #[.int .i64 m.v, .int .i64 m.c, .int .i64 m.s, .int .i64 m.r, .int .i64 m.t, .slice none 0 0]) rfl)
  have q95 := Lib.hid (Cs.set q94.out 5 (by simp) (.slice va L.length vc) (vs' := #[.int .i64 m.v, .int .i64 m.c, .int .i64 m.s, .int .i64 m.r, .int .i64 m.t, .slice va L.length vc]) rfl)
  clear q90 q91 q92 q93 q94
  go_wp2
  have hC := q95.out
  have hB := ((((((H24.out.setCell (p := ⟨(w.heap.size + 1 + 1), 0, none⟩) HLE.out (.int .i64 m.v)).setCell (p := ⟨(w.heap.size + 1 + 1), 1, none⟩) HLE.out (.int .i64 m.c)).setCell (p := ⟨(w.heap.size + 1 + 1), 2, none⟩) HLE.out (.int .i64 m.s)).setCell (p := ⟨(w.heap.size + 1 + 1), 3, none⟩) HLE.out (.int .i64 m.r)).setCell (p := ⟨(w.heap.size + 1 + 1), 4, none⟩) HLE.out (.int .i64 m.t)).setCell (p := ⟨(w.heap.size + 1 + 1), 5, none⟩) HLE.out (.slice va L.length vc))
  obtain ⟨V9, hV9⟩ : ∃ z9, ((((((u2.setCell ⟨(w.heap.size + 1 + 1), 0, none⟩ (.int .i64 m.v)).setCell ⟨(w.heap.size + 1 + 1), 1, none⟩ (.int .i64 m.c)).setCell ⟨(w.heap.size + 1 + 1), 2, none⟩ (.int .i64 m.s)).setCell ⟨(w.heap.size + 1 + 1), 3, none⟩ (.int .i64 m.r)).setCell ⟨(w.heap.size + 1 + 1), 4, none⟩ (.int .i64 m.t)).setCell ⟨(w.heap.size + 1 + 1), 5, none⟩ (.slice va L.length vc)) = z9 := ⟨_, rfl⟩
  rw [hV9] at hC hB ⊢
  clear hV9
  have k0 : V9.cell? ⟨(w.heap.size + 1 + 1), 0, none⟩ = some (.int .i64 m.v) := hC.c 0 rfl
  have k1 : V9.cell? ⟨(w.heap.size + 1 + 1), 1, none⟩ = some (.int .i64 m.c) := hC.c 1 rfl
  have k2 : V9.cell? ⟨(w.heap.size + 1 + 1), 2, none⟩ = some (.int .i64 m.s) := hC.c 2 rfl
  have k3 : V9.cell? ⟨(w.heap.size + 1 + 1), 3, none⟩ = some (.int .i64 m.r) := hC.c 3 rfl
  have k4 : V9.cell? ⟨(w.heap.size + 1 + 1), 4, none⟩ = some (.int .i64 m.t) := hC.c 4 rfl
  have k5 : V9.cell? ⟨(w.heap.size + 1 + 1), 5, none⟩ = some (.slice va L.length vc) := hC.c 5 rfl
  exact bodyPost_ret (v := .tuple #[.agg #[.int .i64 m.v, .int .i64 m.c, .int .i64 m.s, .int .i64 m.r, .int .i64 m.t, .slice va L.length vc], .int .i64 24]) (by simp [results, Try.results16, go_sem, k0, k1, k2, k3, k4, k5]) rfl (⟨_, rfl, HLW.out.step hB, hB⟩)
set_option maxRecDepth 100000 in
set_option maxHeartbeats 8000000 in
theorem radd_p1 (m : Mf) (i : Nat) (v : Value) (L : List (List Int)) (vd : Value) (d : List Int) (vp : Value) (p : List Int) (w : World) (h : RowsAt w v L) (hd : IntsAt w vd d) (hp : IntsAt w vp p) (h9 : L.length ≤ 1000) (h8 : ∀ x ∈ L, x.length ≤ 1000) (hd9 : d.length ≤ 1000) (hp9 : p.length ≤ 1000) (hsl : slB m L = true) (hin : inB 0 (m.c - 1) (i : Int) = true) (hft : ftB m i d = true) (hil : i < L.length) (hfm : fmOK (fmL i L.length) p = false) : Calls Try.prog 16 #[.agg #[.int .i64 m.v, .int .i64 m.c, .int .i64 m.s, .int .i64 m.r, .int .i64 m.t, v], .agg #[.int .i64 (i : Int), vd, vp]] w (ChS m L 17 w) := by
  have HSL := Lib.hid hsl
  have HMF := Lib.hid (sl_mf hsl)
  have HIN := Lib.hid hin
  have HFT := Lib.hid hft
  have HMC := Lib.hid (sl_len hsl)
  have HFM := Lib.hid hfm
  have HIX := Lib.hid hil
  have HL6 := Lib.hid (show L.length ≤ 64 by have := (mfB_parts (sl_mf hsl)).2.1; have := sl_len hsl; omega)
  have HI6 := Lib.hid (show i ≤ 64 by have := HL6.out; omega)
  have HIB := Lib.hid (show (i : Int) ≤ 9223372036854775807 by have := HI6.out; omega)
  have HD9 := Lib.hid hd9
  clear hsl hd9 hin hft hil hfm
  obtain ⟨va, vc, rfl, -, -⟩ : ∃ (a : Option Addr) (c : Nat), v = .slice a L.length c ∧ True ∧ True := by
    obtain ⟨a, c, e, -⟩ := h
    exact ⟨a, c, e, trivial, trivial⟩
  obtain ⟨da, dc, rfl, -, -⟩ : ∃ (a : Option Addr) (c : Nat), vd = .slice a d.length c ∧ True ∧ True := by
    obtain ⟨a, c, e, -⟩ := hd
    exact ⟨a, c, e, trivial, trivial⟩
  obtain ⟨pa, pc, rfl, -⟩ : ∃ (a : Option Addr) (c : Nat), vp = .slice a p.length c ∧ True := by
    obtain ⟨a, c, e, -⟩ := hp
    exact ⟨a, c, e, trivial⟩
  have HLW := Lib.hid h
  have HDW := Lib.hid hd
  have HPW := Lib.hid hp
  have HLN := Lib.hid h9
  have HLM := Lib.hid h8
  have HP9 := Lib.hid hp9
  have H0 := Lib.hid (Below.refl w.heap.size w)
  clear h hd hp h9 h8 hp9
  have H1 := Lib.hid (Cs.newB H0.out (w.heap.size) #[.int .i64 m.v, .int .i64 m.c, .int .i64 m.s, .int .i64 m.r, .int .i64 m.t, .slice va L.length vc] 27 (by simp))
  have H2 := Lib.hid (keep2 (al _ (.cells #[.int .i64 m.v, .int .i64 m.c, .int .i64 m.s, .int .i64 m.r, .int .i64 m.t, .slice va L.length vc] 27)) H0.out)
  clear H0
  have H3 := Lib.hid (Cs.newB H2.out (w.heap.size + 1) #[.int .i64 (i : Int), .slice da d.length dc, .slice pa p.length pc] 29 (by simp))
  have H4 := Lib.hid (H1.out.step (al _ (.cells #[.int .i64 (i : Int), .slice da d.length dc, .slice pa p.length pc] 29)))
  clear H1
  have H5 := Lib.hid (keep2 (al _ (.cells #[.int .i64 (i : Int), .slice da d.length dc, .slice pa p.length pc] 29)) H2.out)
  clear H2
  have H6 := Lib.hid (Cs.newB H5.out (w.heap.size + 1 + 1) #[.int .i64 0, .int .i64 0, .int .i64 0, .int .i64 0, .int .i64 0, .slice none 0 0] 27 (by simp))
  have H7 := Lib.hid (H4.out.step (al _ (.cells #[.int .i64 0, .int .i64 0, .int .i64 0, .int .i64 0, .int .i64 0, .slice none 0 0] 27)))
  clear H4
  have H8 := Lib.hid (H3.out.step (al _ (.cells #[.int .i64 0, .int .i64 0, .int .i64 0, .int .i64 0, .int .i64 0, .slice none 0 0] 27)))
  clear H3
  have H9 := Lib.hid (keep2 (al _ (.cells #[.int .i64 0, .int .i64 0, .int .i64 0, .int .i64 0, .int .i64 0, .slice none 0 0] 27)) H5.out)
  clear H5
  go_enter Try.func16, Try.ntmps16
  have xs0 := H7.out.c 0 rfl
  have xs1 := H7.out.c 1 rfl
  have xs2 := H7.out.c 2 rfl
  have xs3 := H7.out.c 3 rfl
  have xs4 := H7.out.c 4 rfl
  have xs5 := H7.out.c 5 rfl
  have zs := H7.out.2.2
  have xp0 := H8.out.c 0 rfl
  have xp1 := H8.out.c 1 rfl
  have xp2 := H8.out.c 2 rfl
  have zp := H8.out.2.2
  have xr0 := H6.out.c 0 rfl
  have xr1 := H6.out.c 1 rfl
  have xr2 := H6.out.c 2 rfl
  have xr3 := H6.out.c 3 rfl
  have xr4 := H6.out.c 4 rfl
  have xr5 := H6.out.c 5 rfl
  have zr := H6.out.2.2
  go_wp2_with fail
  refine (rslot_any m _ L _ (HLW.out.step H9.out) HLN.out HLM.out).mono ?_
  rintro e u1 ⟨rfl, b1⟩
  clear xs0 xs1 xs2 xs3 xs4 xs5 zs xp0 xp1 xp2 zp xr0 xr1 xr2 xr3 xr4 xr5 zr
  have H10 := Lib.hid (H7.out.step b1)
  clear H7
  have H11 := Lib.hid (H8.out.step b1)
  clear H8
  have H12 := Lib.hid (H6.out.step b1)
  clear H6
  have H13 := Lib.hid (keep2 b1 H9.out)
  clear H9
  clear b1
  rw [HSL.out]
  have hw : wrap64 (m.c - 1) = m.c - 1 := IntWalk.wrap64_in _ (by have := (mfB_parts HMF.out).2.1; omega)
  have xqs0 := H10.out.c 0 rfl
  have xqs1 := H10.out.c 1 rfl
  have xqs2 := H10.out.c 2 rfl
  have xqs3 := H10.out.c 3 rfl
  have xqs4 := H10.out.c 4 rfl
  have xqs5 := H10.out.c 5 rfl
  have zqs := H10.out.2.2
  have H14 := Lib.hid (Cs.newB H13.out (u1.heap.size) #[.int .i64 m.v, .int .i64 m.c, .int .i64 m.s, .int .i64 m.r, .int .i64 m.t] 24 (by simp))
  have H15 := Lib.hid (H10.out.step (al _ (.cells #[.int .i64 m.v, .int .i64 m.c, .int .i64 m.s, .int .i64 m.r, .int .i64 m.t] 24)))
  clear H10
  have H16 := Lib.hid (H11.out.step (al _ (.cells #[.int .i64 m.v, .int .i64 m.c, .int .i64 m.s, .int .i64 m.r, .int .i64 m.t] 24)))
  clear H11
  have H17 := Lib.hid (H12.out.step (al _ (.cells #[.int .i64 m.v, .int .i64 m.c, .int .i64 m.s, .int .i64 m.r, .int .i64 m.t] 24)))
  clear H12
  have H18 := Lib.hid (keep2 (al _ (.cells #[.int .i64 m.v, .int .i64 m.c, .int .i64 m.s, .int .i64 m.r, .int .i64 m.t] 24)) H13.out)
  clear H13
  have xp0 := H16.out.c 0 rfl
  have xp1 := H16.out.c 1 rfl
  have xp2 := H16.out.c 2 rfl
  have zp := H16.out.2.2
  have xm0 := H14.out.c 0 rfl
  have xm1 := H14.out.c 1 rfl
  have xm2 := H14.out.c 2 rfl
  have xm3 := H14.out.c 3 rfl
  have xm4 := H14.out.c 4 rfl
  have zm := H14.out.2.2
  go_wp2_with fail
  refine (rbtw_any (i : Int) 0 (m.c - 1) _).mono ?_
  rintro e wq19 ⟨rfl, rfl⟩
  rw [HIN.out]
  clear hw
  go_wp2_with fail
  refine (rfits_any m _ _ d _ (HDW.out.step H18.out) HMF.out HIN.out).mono ?_
  rintro e u2 ⟨rfl, b2⟩
  clear xqs0 xqs1 xqs2 xqs3 xqs4 xqs5 zqs xp0 xp1 xp2 zp xm0 xm1 xm2 xm3 xm4 zm
  have H20 := Lib.hid (H15.out.step b2)
  clear H15
  have H21 := Lib.hid (H16.out.step b2)
  clear H16
  have H22 := Lib.hid (H17.out.step b2)
  clear H17
  have H23 := Lib.hid (H14.out.step b2)
  clear H14
  have H24 := Lib.hid (keep2 b2 H18.out)
  clear H18
  clear b2
  rw [HFT.out]
  have xp0 := H21.out.c 0 rfl
  have xp1 := H21.out.c 1 rfl
  have xp2 := H21.out.c 2 rfl
  have zp := H21.out.2.2
  go_wp2_with fail
  refine (rclimbR_any _ _ d p (i : Int) _ (HDW.out.step H24.out) (HPW.out.step H24.out) HD9.out HIB.out).mono ?_
  rintro e u3 ⟨cu, rfl, -, b3⟩
  clear xp0 xp1 xp2 zp
  have H25 := Lib.hid (H20.out.step b3)
  clear H20
  have H26 := Lib.hid (H21.out.step b3)
  clear H21
  have H27 := Lib.hid (H22.out.step b3)
  clear H22
  have H28 := Lib.hid (H23.out.step b3)
  clear H23
  have H29 := Lib.hid (keep2 b3 H24.out)
  clear H24
  clear b3
  obtain ⟨cr, hcr⟩ : ∃ z9, clH d (i : Int) p = z9 := ⟨_, rfl⟩
  have HCR := Lib.hid hcr
  rw [hcr]
  clear hcr
  have xp0 := H26.out.c 0 rfl
  have xp1 := H26.out.c 1 rfl
  have xp2 := H26.out.c 2 rfl
  have zp := H26.out.2.2
  have xm0 := H28.out.c 0 rfl
  have xm1 := H28.out.c 1 rfl
  have xm2 := H28.out.c 2 rfl
  have xm3 := H28.out.c 3 rfl
  have xm4 := H28.out.c 4 rfl
  have zm := H28.out.2.2
  go_wp2_with fail
  refine (rform_c _ p i L.length m.c HMC.out _ (HPW.out.step H29.out) HL6.out HI6.out HP9.out).mono ?_
  rintro e wq30 ⟨rfl, rfl⟩
  rw [HFM.out]
  clear xp0 xp1 xp2 zp xm0 xm1 xm2 xm3 xm4 zm
  obtain ⟨U1, hU1⟩ : ∃ z9, u3 = z9 := ⟨_, rfl⟩
  rw [hU1] at H25 H26 H27 H28 H29 ⊢
  clear hU1
  have xs0 := H25.out.c 0 rfl
  have xs1 := H25.out.c 1 rfl
  have xs2 := H25.out.c 2 rfl
  have xs3 := H25.out.c 3 rfl
  have xs4 := H25.out.c 4 rfl
  have xs5 := H25.out.c 5 rfl
  have zs := H25.out.2.2
  have xr0 := H27.out.c 0 rfl
  have xr1 := H27.out.c 1 rfl
  have xr2 := H27.out.c 2 rfl
  have xr3 := H27.out.c 3 rfl
  have xr4 := H27.out.c 4 rfl
  have xr5 := H27.out.c 5 rfl
  have zr := H27.out.2.2
  have fr0 := H27.out.f 0 (by simp)
  have fr1 := H27.out.f 1 (by simp)
  have fr2 := H27.out.f 2 (by simp)
  have fr3 := H27.out.f 3 (by simp)
  have fr4 := H27.out.f 4 (by simp)
  have fr5 := H27.out.f 5 (by simp)
  have HLE := Lib.hid (show w.heap.size ≤ (w.heap.size + 1 + 1) from by omega)
  have q90 := Lib.hid (Cs.set H27.out 0 (by simp) (.int .i64 m.v) (vs' := #[.int .i64 m.v, .int .i64 0, .int .i64 0, .int .i64 0, .int .i64 0, .slice none 0 0]) rfl)
  have q91 := Lib.hid (Cs.set q90.out 1 (by simp) (.int .i64 m.c) (vs' := #[.int .i64 m.v, .int .i64 m.c, .int .i64 0, .int .i64 0, .int .i64 0, .slice none 0 0]) rfl)
  have q92 := Lib.hid (Cs.set q91.out 2 (by simp) (.int .i64 m.s) (vs' := #[.int .i64 m.v, .int .i64 m.c, .int .i64 m.s, .int .i64 0, .int .i64 0, .slice none 0 0]) rfl)
  have q93 := Lib.hid (Cs.set q92.out 3 (by simp) (.int .i64 m.r) (vs' := #[.int .i64 m.v, .int .i64 m.c, .int .i64 m.s, .int .i64 m.r, .int .i64 0, .slice none 0 0]) rfl)
  have q94 := Lib.hid (Cs.set q93.out 4 (by simp) (.int .i64 m.t) (vs' := #[.int .i64 m.v, .int .i64 m.c, .int .i64 m.s, .int .i64 m.r, .int .i64 m.t, .slice none 0 0]) rfl)
  have q95 := Lib.hid (Cs.set q94.out 5 (by simp) (.slice va L.length vc) (vs' := #[.int .i64 m.v, .int .i64 m.c, .int .i64 m.s, .int .i64 m.r, .int .i64 m.t, .slice va L.length vc]) rfl)
  clear q90 q91 q92 q93 q94
  go_wp2
  have hC := q95.out
  have hB := ((((((H29.out.setCell (p := ⟨(w.heap.size + 1 + 1), 0, none⟩) HLE.out (.int .i64 m.v)).setCell (p := ⟨(w.heap.size + 1 + 1), 1, none⟩) HLE.out (.int .i64 m.c)).setCell (p := ⟨(w.heap.size + 1 + 1), 2, none⟩) HLE.out (.int .i64 m.s)).setCell (p := ⟨(w.heap.size + 1 + 1), 3, none⟩) HLE.out (.int .i64 m.r)).setCell (p := ⟨(w.heap.size + 1 + 1), 4, none⟩) HLE.out (.int .i64 m.t)).setCell (p := ⟨(w.heap.size + 1 + 1), 5, none⟩) HLE.out (.slice va L.length vc))
  obtain ⟨V9, hV9⟩ : ∃ z9, ((((((U1.setCell ⟨(w.heap.size + 1 + 1), 0, none⟩ (.int .i64 m.v)).setCell ⟨(w.heap.size + 1 + 1), 1, none⟩ (.int .i64 m.c)).setCell ⟨(w.heap.size + 1 + 1), 2, none⟩ (.int .i64 m.s)).setCell ⟨(w.heap.size + 1 + 1), 3, none⟩ (.int .i64 m.r)).setCell ⟨(w.heap.size + 1 + 1), 4, none⟩ (.int .i64 m.t)).setCell ⟨(w.heap.size + 1 + 1), 5, none⟩ (.slice va L.length vc)) = z9 := ⟨_, rfl⟩
  rw [hV9] at hC hB ⊢
  clear hV9
  have k0 : V9.cell? ⟨(w.heap.size + 1 + 1), 0, none⟩ = some (.int .i64 m.v) := hC.c 0 rfl
  have k1 : V9.cell? ⟨(w.heap.size + 1 + 1), 1, none⟩ = some (.int .i64 m.c) := hC.c 1 rfl
  have k2 : V9.cell? ⟨(w.heap.size + 1 + 1), 2, none⟩ = some (.int .i64 m.s) := hC.c 2 rfl
  have k3 : V9.cell? ⟨(w.heap.size + 1 + 1), 3, none⟩ = some (.int .i64 m.r) := hC.c 3 rfl
  have k4 : V9.cell? ⟨(w.heap.size + 1 + 1), 4, none⟩ = some (.int .i64 m.t) := hC.c 4 rfl
  have k5 : V9.cell? ⟨(w.heap.size + 1 + 1), 5, none⟩ = some (.slice va L.length vc) := hC.c 5 rfl
  exact bodyPost_ret (v := .tuple #[.agg #[.int .i64 m.v, .int .i64 m.c, .int .i64 m.s, .int .i64 m.r, .int .i64 m.t, .slice va L.length vc], .int .i64 17]) (by simp [results, Try.results16, go_sem, k0, k1, k2, k3, k4, k5]) rfl (⟨_, rfl, HLW.out.step hB, hB⟩)
set_option maxRecDepth 100000 in
set_option maxHeartbeats 8000000 in
theorem radd_p2 (m : Mf) (i : Nat) (v : Value) (L : List (List Int)) (vd : Value) (d : List Int) (vp : Value) (p : List Int) (w : World) (h : RowsAt w v L) (hd : IntsAt w vd d) (hp : IntsAt w vp p) (h9 : L.length ≤ 1000) (h8 : ∀ x ∈ L, x.length ≤ 1000) (hd9 : d.length ≤ 1000) (hp9 : p.length ≤ 1000) (hsl : slB m L = true) (hin : inB 0 (m.c - 1) (i : Int) = true) (hft : ftB m i d = true) (hil : i < L.length) (hfm : fmOK (fmL i L.length) p = true) (hnr : ¬ clH d (i : Int) p = m.r) : Calls Try.prog 16 #[.agg #[.int .i64 m.v, .int .i64 m.c, .int .i64 m.s, .int .i64 m.r, .int .i64 m.t, v], .agg #[.int .i64 (i : Int), vd, vp]] w (ChS m L 17 w) := by
  have HSL := Lib.hid hsl
  have HMF := Lib.hid (sl_mf hsl)
  have HIN := Lib.hid hin
  have HFT := Lib.hid hft
  have HMC := Lib.hid (sl_len hsl)
  have HFM := Lib.hid hfm
  have HIX := Lib.hid hil
  have HL6 := Lib.hid (show L.length ≤ 64 by have := (mfB_parts (sl_mf hsl)).2.1; have := sl_len hsl; omega)
  have HI6 := Lib.hid (show i ≤ 64 by have := HL6.out; omega)
  have HIB := Lib.hid (show (i : Int) ≤ 9223372036854775807 by have := HI6.out; omega)
  have HD9 := Lib.hid hd9
  have HNR := Lib.hid hnr
  clear hsl hd9 hin hft hil hfm hnr
  obtain ⟨va, vc, rfl, -, -⟩ : ∃ (a : Option Addr) (c : Nat), v = .slice a L.length c ∧ True ∧ True := by
    obtain ⟨a, c, e, -⟩ := h
    exact ⟨a, c, e, trivial, trivial⟩
  obtain ⟨da, dc, rfl, -, -⟩ : ∃ (a : Option Addr) (c : Nat), vd = .slice a d.length c ∧ True ∧ True := by
    obtain ⟨a, c, e, -⟩ := hd
    exact ⟨a, c, e, trivial, trivial⟩
  obtain ⟨pa, pc, rfl, -⟩ : ∃ (a : Option Addr) (c : Nat), vp = .slice a p.length c ∧ True := by
    obtain ⟨a, c, e, -⟩ := hp
    exact ⟨a, c, e, trivial⟩
  have HLW := Lib.hid h
  have HDW := Lib.hid hd
  have HPW := Lib.hid hp
  have HLN := Lib.hid h9
  have HLM := Lib.hid h8
  have HP9 := Lib.hid hp9
  have H0 := Lib.hid (Below.refl w.heap.size w)
  clear h hd hp h9 h8 hp9
  have H1 := Lib.hid (Cs.newB H0.out (w.heap.size) #[.int .i64 m.v, .int .i64 m.c, .int .i64 m.s, .int .i64 m.r, .int .i64 m.t, .slice va L.length vc] 27 (by simp))
  have H2 := Lib.hid (keep2 (al _ (.cells #[.int .i64 m.v, .int .i64 m.c, .int .i64 m.s, .int .i64 m.r, .int .i64 m.t, .slice va L.length vc] 27)) H0.out)
  clear H0
  have H3 := Lib.hid (Cs.newB H2.out (w.heap.size + 1) #[.int .i64 (i : Int), .slice da d.length dc, .slice pa p.length pc] 29 (by simp))
  have H4 := Lib.hid (H1.out.step (al _ (.cells #[.int .i64 (i : Int), .slice da d.length dc, .slice pa p.length pc] 29)))
  clear H1
  have H5 := Lib.hid (keep2 (al _ (.cells #[.int .i64 (i : Int), .slice da d.length dc, .slice pa p.length pc] 29)) H2.out)
  clear H2
  have H6 := Lib.hid (Cs.newB H5.out (w.heap.size + 1 + 1) #[.int .i64 0, .int .i64 0, .int .i64 0, .int .i64 0, .int .i64 0, .slice none 0 0] 27 (by simp))
  have H7 := Lib.hid (H4.out.step (al _ (.cells #[.int .i64 0, .int .i64 0, .int .i64 0, .int .i64 0, .int .i64 0, .slice none 0 0] 27)))
  clear H4
  have H8 := Lib.hid (H3.out.step (al _ (.cells #[.int .i64 0, .int .i64 0, .int .i64 0, .int .i64 0, .int .i64 0, .slice none 0 0] 27)))
  clear H3
  have H9 := Lib.hid (keep2 (al _ (.cells #[.int .i64 0, .int .i64 0, .int .i64 0, .int .i64 0, .int .i64 0, .slice none 0 0] 27)) H5.out)
  clear H5
  go_enter Try.func16, Try.ntmps16
  have xs0 := H7.out.c 0 rfl
  have xs1 := H7.out.c 1 rfl
  have xs2 := H7.out.c 2 rfl
  have xs3 := H7.out.c 3 rfl
  have xs4 := H7.out.c 4 rfl
  have xs5 := H7.out.c 5 rfl
  have zs := H7.out.2.2
  have xp0 := H8.out.c 0 rfl
  have xp1 := H8.out.c 1 rfl
  have xp2 := H8.out.c 2 rfl
  have zp := H8.out.2.2
  have xr0 := H6.out.c 0 rfl
  have xr1 := H6.out.c 1 rfl
  have xr2 := H6.out.c 2 rfl
  have xr3 := H6.out.c 3 rfl
  have xr4 := H6.out.c 4 rfl
  have xr5 := H6.out.c 5 rfl
  have zr := H6.out.2.2
  go_wp2_with fail
  refine (rslot_any m _ L _ (HLW.out.step H9.out) HLN.out HLM.out).mono ?_
  rintro e u1 ⟨rfl, b1⟩
  clear xs0 xs1 xs2 xs3 xs4 xs5 zs xp0 xp1 xp2 zp xr0 xr1 xr2 xr3 xr4 xr5 zr
  have H10 := Lib.hid (H7.out.step b1)
  clear H7
  have H11 := Lib.hid (H8.out.step b1)
  clear H8
  have H12 := Lib.hid (H6.out.step b1)
  clear H6
  have H13 := Lib.hid (keep2 b1 H9.out)
  clear H9
  clear b1
  rw [HSL.out]
  have hw : wrap64 (m.c - 1) = m.c - 1 := IntWalk.wrap64_in _ (by have := (mfB_parts HMF.out).2.1; omega)
  have xqs0 := H10.out.c 0 rfl
  have xqs1 := H10.out.c 1 rfl
  have xqs2 := H10.out.c 2 rfl
  have xqs3 := H10.out.c 3 rfl
  have xqs4 := H10.out.c 4 rfl
  have xqs5 := H10.out.c 5 rfl
  have zqs := H10.out.2.2
  have H14 := Lib.hid (Cs.newB H13.out (u1.heap.size) #[.int .i64 m.v, .int .i64 m.c, .int .i64 m.s, .int .i64 m.r, .int .i64 m.t] 24 (by simp))
  have H15 := Lib.hid (H10.out.step (al _ (.cells #[.int .i64 m.v, .int .i64 m.c, .int .i64 m.s, .int .i64 m.r, .int .i64 m.t] 24)))
  clear H10
  have H16 := Lib.hid (H11.out.step (al _ (.cells #[.int .i64 m.v, .int .i64 m.c, .int .i64 m.s, .int .i64 m.r, .int .i64 m.t] 24)))
  clear H11
  have H17 := Lib.hid (H12.out.step (al _ (.cells #[.int .i64 m.v, .int .i64 m.c, .int .i64 m.s, .int .i64 m.r, .int .i64 m.t] 24)))
  clear H12
  have H18 := Lib.hid (keep2 (al _ (.cells #[.int .i64 m.v, .int .i64 m.c, .int .i64 m.s, .int .i64 m.r, .int .i64 m.t] 24)) H13.out)
  clear H13
  have xp0 := H16.out.c 0 rfl
  have xp1 := H16.out.c 1 rfl
  have xp2 := H16.out.c 2 rfl
  have zp := H16.out.2.2
  have xm0 := H14.out.c 0 rfl
  have xm1 := H14.out.c 1 rfl
  have xm2 := H14.out.c 2 rfl
  have xm3 := H14.out.c 3 rfl
  have xm4 := H14.out.c 4 rfl
  have zm := H14.out.2.2
  go_wp2_with fail
  refine (rbtw_any (i : Int) 0 (m.c - 1) _).mono ?_
  rintro e wq19 ⟨rfl, rfl⟩
  rw [HIN.out]
  clear hw
  go_wp2_with fail
  refine (rfits_any m _ _ d _ (HDW.out.step H18.out) HMF.out HIN.out).mono ?_
  rintro e u2 ⟨rfl, b2⟩
  clear xqs0 xqs1 xqs2 xqs3 xqs4 xqs5 zqs xp0 xp1 xp2 zp xm0 xm1 xm2 xm3 xm4 zm
  have H20 := Lib.hid (H15.out.step b2)
  clear H15
  have H21 := Lib.hid (H16.out.step b2)
  clear H16
  have H22 := Lib.hid (H17.out.step b2)
  clear H17
  have H23 := Lib.hid (H14.out.step b2)
  clear H14
  have H24 := Lib.hid (keep2 b2 H18.out)
  clear H18
  clear b2
  rw [HFT.out]
  have xp0 := H21.out.c 0 rfl
  have xp1 := H21.out.c 1 rfl
  have xp2 := H21.out.c 2 rfl
  have zp := H21.out.2.2
  go_wp2_with fail
  refine (rclimbR_any _ _ d p (i : Int) _ (HDW.out.step H24.out) (HPW.out.step H24.out) HD9.out HIB.out).mono ?_
  rintro e u3 ⟨cu, rfl, -, b3⟩
  clear xp0 xp1 xp2 zp
  have H25 := Lib.hid (H20.out.step b3)
  clear H20
  have H26 := Lib.hid (H21.out.step b3)
  clear H21
  have H27 := Lib.hid (H22.out.step b3)
  clear H22
  have H28 := Lib.hid (H23.out.step b3)
  clear H23
  have H29 := Lib.hid (keep2 b3 H24.out)
  clear H24
  clear b3
  obtain ⟨cr, hcr⟩ : ∃ z9, clH d (i : Int) p = z9 := ⟨_, rfl⟩
  have HCR := Lib.hid hcr
  rw [hcr]
  clear hcr
  have xp0 := H26.out.c 0 rfl
  have xp1 := H26.out.c 1 rfl
  have xp2 := H26.out.c 2 rfl
  have zp := H26.out.2.2
  have xm0 := H28.out.c 0 rfl
  have xm1 := H28.out.c 1 rfl
  have xm2 := H28.out.c 2 rfl
  have xm3 := H28.out.c 3 rfl
  have xm4 := H28.out.c 4 rfl
  have zm := H28.out.2.2
  go_wp2_with fail
  refine (rform_c _ p i L.length m.c HMC.out _ (HPW.out.step H29.out) HL6.out HI6.out HP9.out).mono ?_
  rintro e wq30 ⟨rfl, rfl⟩
  rw [HFM.out]
  have t1 : (cr != m.r) = true := by have := HNR.out; rw [HCR.out] at this; simpa using this
  have t2 : ¬ cr = m.r := by have := HNR.out; rw [HCR.out] at this; exact this
  have xs0 := H25.out.c 0 rfl
  have xs1 := H25.out.c 1 rfl
  have xs2 := H25.out.c 2 rfl
  have xs3 := H25.out.c 3 rfl
  have xs4 := H25.out.c 4 rfl
  have xs5 := H25.out.c 5 rfl
  have zs := H25.out.2.2
  have xr0 := H27.out.c 0 rfl
  have xr1 := H27.out.c 1 rfl
  have xr2 := H27.out.c 2 rfl
  have xr3 := H27.out.c 3 rfl
  have xr4 := H27.out.c 4 rfl
  have xr5 := H27.out.c 5 rfl
  have zr := H27.out.2.2
  have fr0 := H27.out.f 0 (by simp)
  have fr1 := H27.out.f 1 (by simp)
  have fr2 := H27.out.f 2 (by simp)
  have fr3 := H27.out.f 3 (by simp)
  have fr4 := H27.out.f 4 (by simp)
  have fr5 := H27.out.f 5 (by simp)
  have HLE := Lib.hid (show w.heap.size ≤ (w.heap.size + 1 + 1) from by omega)
  have q90 := Lib.hid (Cs.set H27.out 0 (by simp) (.int .i64 m.v) (vs' := #[.int .i64 m.v, .int .i64 0, .int .i64 0, .int .i64 0, .int .i64 0, .slice none 0 0]) rfl)
  have q91 := Lib.hid (Cs.set q90.out 1 (by simp) (.int .i64 m.c) (vs' := #[.int .i64 m.v, .int .i64 m.c, .int .i64 0, .int .i64 0, .int .i64 0, .slice none 0 0]) rfl)
  have q92 := Lib.hid (Cs.set q91.out 2 (by simp) (.int .i64 m.s) (vs' := #[.int .i64 m.v, .int .i64 m.c, .int .i64 m.s, .int .i64 0, .int .i64 0, .slice none 0 0]) rfl)
  have q93 := Lib.hid (Cs.set q92.out 3 (by simp) (.int .i64 m.r) (vs' := #[.int .i64 m.v, .int .i64 m.c, .int .i64 m.s, .int .i64 m.r, .int .i64 0, .slice none 0 0]) rfl)
  have q94 := Lib.hid (Cs.set q93.out 4 (by simp) (.int .i64 m.t) (vs' := #[.int .i64 m.v, .int .i64 m.c, .int .i64 m.s, .int .i64 m.r, .int .i64 m.t, .slice none 0 0]) rfl)
  have q95 := Lib.hid (Cs.set q94.out 5 (by simp) (.slice va L.length vc) (vs' := #[.int .i64 m.v, .int .i64 m.c, .int .i64 m.s, .int .i64 m.r, .int .i64 m.t, .slice va L.length vc]) rfl)
  clear q90 q91 q92 q93 q94
  go_wp2
  have hC := q95.out
  have hB := ((((((H29.out.setCell (p := ⟨(w.heap.size + 1 + 1), 0, none⟩) HLE.out (.int .i64 m.v)).setCell (p := ⟨(w.heap.size + 1 + 1), 1, none⟩) HLE.out (.int .i64 m.c)).setCell (p := ⟨(w.heap.size + 1 + 1), 2, none⟩) HLE.out (.int .i64 m.s)).setCell (p := ⟨(w.heap.size + 1 + 1), 3, none⟩) HLE.out (.int .i64 m.r)).setCell (p := ⟨(w.heap.size + 1 + 1), 4, none⟩) HLE.out (.int .i64 m.t)).setCell (p := ⟨(w.heap.size + 1 + 1), 5, none⟩) HLE.out (.slice va L.length vc))
  obtain ⟨V9, hV9⟩ : ∃ z9, ((((((u3.setCell ⟨(w.heap.size + 1 + 1), 0, none⟩ (.int .i64 m.v)).setCell ⟨(w.heap.size + 1 + 1), 1, none⟩ (.int .i64 m.c)).setCell ⟨(w.heap.size + 1 + 1), 2, none⟩ (.int .i64 m.s)).setCell ⟨(w.heap.size + 1 + 1), 3, none⟩ (.int .i64 m.r)).setCell ⟨(w.heap.size + 1 + 1), 4, none⟩ (.int .i64 m.t)).setCell ⟨(w.heap.size + 1 + 1), 5, none⟩ (.slice va L.length vc)) = z9 := ⟨_, rfl⟩
  rw [hV9] at hC hB ⊢
  clear hV9
  have k0 : V9.cell? ⟨(w.heap.size + 1 + 1), 0, none⟩ = some (.int .i64 m.v) := hC.c 0 rfl
  have k1 : V9.cell? ⟨(w.heap.size + 1 + 1), 1, none⟩ = some (.int .i64 m.c) := hC.c 1 rfl
  have k2 : V9.cell? ⟨(w.heap.size + 1 + 1), 2, none⟩ = some (.int .i64 m.s) := hC.c 2 rfl
  have k3 : V9.cell? ⟨(w.heap.size + 1 + 1), 3, none⟩ = some (.int .i64 m.r) := hC.c 3 rfl
  have k4 : V9.cell? ⟨(w.heap.size + 1 + 1), 4, none⟩ = some (.int .i64 m.t) := hC.c 4 rfl
  have k5 : V9.cell? ⟨(w.heap.size + 1 + 1), 5, none⟩ = some (.slice va L.length vc) := hC.c 5 rfl
  exact bodyPost_ret (v := .tuple #[.agg #[.int .i64 m.v, .int .i64 m.c, .int .i64 m.s, .int .i64 m.r, .int .i64 m.t, .slice va L.length vc], .int .i64 17]) (by simp [results, Try.results16, go_sem, k0, k1, k2, k3, k4, k5]) rfl (⟨_, rfl, HLW.out.step hB, hB⟩)
set_option maxRecDepth 100000 in
set_option maxHeartbeats 8000000 in
theorem radd_ok (m : Mf) (i : Nat) (v : Value) (L : List (List Int)) (vd : Value) (d : List Int) (vp : Value) (p : List Int) (w : World) (h : RowsAt w v L) (hd : IntsAt w vd d) (hp : IntsAt w vp p) (h9 : L.length ≤ 1000) (h8 : ∀ x ∈ L, x.length ≤ 1000) (hd9 : d.length ≤ 1000) (hp9 : p.length ≤ 1000) (hsl : slB m L = true) (hin : inB 0 (m.c - 1) (i : Int) = true) (hft : ftB m i d = true) (hil : i < L.length) (hfm : fmOK (fmL i L.length) p = true) (hnr : clH d (i : Int) p = m.r) : Calls Try.prog 16 #[.agg #[.int .i64 m.v, .int .i64 m.c, .int .i64 m.s, .int .i64 m.r, .int .i64 m.t, v], .agg #[.int .i64 (i : Int), vd, vp]] w (ChS m (L.set i d) 0 w) := by
  have HSL := Lib.hid hsl
  have HMF := Lib.hid (sl_mf hsl)
  have HIN := Lib.hid hin
  have HFT := Lib.hid hft
  have HMC := Lib.hid (sl_len hsl)
  have HFM := Lib.hid hfm
  have HIX := Lib.hid hil
  have HL6 := Lib.hid (show L.length ≤ 64 by have := (mfB_parts (sl_mf hsl)).2.1; have := sl_len hsl; omega)
  have HI6 := Lib.hid (show i ≤ 64 by have := HL6.out; omega)
  have HIB := Lib.hid (show (i : Int) ≤ 9223372036854775807 by have := HI6.out; omega)
  have HD9 := Lib.hid hd9
  have HNR := Lib.hid hnr
  clear hsl hd9 hin hft hil hfm hnr
  obtain ⟨va, vc, rfl, -, -⟩ : ∃ (a : Option Addr) (c : Nat), v = .slice a L.length c ∧ True ∧ True := by
    obtain ⟨a, c, e, -⟩ := h
    exact ⟨a, c, e, trivial, trivial⟩
  obtain ⟨da, dc, rfl, -, -⟩ : ∃ (a : Option Addr) (c : Nat), vd = .slice a d.length c ∧ True ∧ True := by
    obtain ⟨a, c, e, -⟩ := hd
    exact ⟨a, c, e, trivial, trivial⟩
  obtain ⟨pa, pc, rfl, -⟩ : ∃ (a : Option Addr) (c : Nat), vp = .slice a p.length c ∧ True := by
    obtain ⟨a, c, e, -⟩ := hp
    exact ⟨a, c, e, trivial⟩
  have HLW := Lib.hid h
  have HDW := Lib.hid hd
  have HPW := Lib.hid hp
  have HLN := Lib.hid h9
  have HLM := Lib.hid h8
  have HP9 := Lib.hid hp9
  have H0 := Lib.hid (Below.refl w.heap.size w)
  clear h hd hp h9 h8 hp9
  have H1 := Lib.hid (Cs.newB H0.out (w.heap.size) #[.int .i64 m.v, .int .i64 m.c, .int .i64 m.s, .int .i64 m.r, .int .i64 m.t, .slice va L.length vc] 27 (by simp))
  have H2 := Lib.hid (keep2 (al _ (.cells #[.int .i64 m.v, .int .i64 m.c, .int .i64 m.s, .int .i64 m.r, .int .i64 m.t, .slice va L.length vc] 27)) H0.out)
  clear H0
  have H3 := Lib.hid (Cs.newB H2.out (w.heap.size + 1) #[.int .i64 (i : Int), .slice da d.length dc, .slice pa p.length pc] 29 (by simp))
  have H4 := Lib.hid (H1.out.step (al _ (.cells #[.int .i64 (i : Int), .slice da d.length dc, .slice pa p.length pc] 29)))
  clear H1
  have H5 := Lib.hid (keep2 (al _ (.cells #[.int .i64 (i : Int), .slice da d.length dc, .slice pa p.length pc] 29)) H2.out)
  clear H2
  have H6 := Lib.hid (Cs.newB H5.out (w.heap.size + 1 + 1) #[.int .i64 0, .int .i64 0, .int .i64 0, .int .i64 0, .int .i64 0, .slice none 0 0] 27 (by simp))
  have H7 := Lib.hid (H4.out.step (al _ (.cells #[.int .i64 0, .int .i64 0, .int .i64 0, .int .i64 0, .int .i64 0, .slice none 0 0] 27)))
  clear H4
  have H8 := Lib.hid (H3.out.step (al _ (.cells #[.int .i64 0, .int .i64 0, .int .i64 0, .int .i64 0, .int .i64 0, .slice none 0 0] 27)))
  clear H3
  have H9 := Lib.hid (keep2 (al _ (.cells #[.int .i64 0, .int .i64 0, .int .i64 0, .int .i64 0, .int .i64 0, .slice none 0 0] 27)) H5.out)
  clear H5
  go_enter Try.func16, Try.ntmps16
  have xs0 := H7.out.c 0 rfl
  have xs1 := H7.out.c 1 rfl
  have xs2 := H7.out.c 2 rfl
  have xs3 := H7.out.c 3 rfl
  have xs4 := H7.out.c 4 rfl
  have xs5 := H7.out.c 5 rfl
  have zs := H7.out.2.2
  have xp0 := H8.out.c 0 rfl
  have xp1 := H8.out.c 1 rfl
  have xp2 := H8.out.c 2 rfl
  have zp := H8.out.2.2
  have xr0 := H6.out.c 0 rfl
  have xr1 := H6.out.c 1 rfl
  have xr2 := H6.out.c 2 rfl
  have xr3 := H6.out.c 3 rfl
  have xr4 := H6.out.c 4 rfl
  have xr5 := H6.out.c 5 rfl
  have zr := H6.out.2.2
  go_wp2_with fail
  refine (rslot_any m _ L _ (HLW.out.step H9.out) HLN.out HLM.out).mono ?_
  rintro e u1 ⟨rfl, b1⟩
  clear xs0 xs1 xs2 xs3 xs4 xs5 zs xp0 xp1 xp2 zp xr0 xr1 xr2 xr3 xr4 xr5 zr
  have H10 := Lib.hid (H7.out.step b1)
  clear H7
  have H11 := Lib.hid (H8.out.step b1)
  clear H8
  have H12 := Lib.hid (H6.out.step b1)
  clear H6
  have H13 := Lib.hid (keep2 b1 H9.out)
  clear H9
  clear b1
  rw [HSL.out]
  have hw : wrap64 (m.c - 1) = m.c - 1 := IntWalk.wrap64_in _ (by have := (mfB_parts HMF.out).2.1; omega)
  have xqs0 := H10.out.c 0 rfl
  have xqs1 := H10.out.c 1 rfl
  have xqs2 := H10.out.c 2 rfl
  have xqs3 := H10.out.c 3 rfl
  have xqs4 := H10.out.c 4 rfl
  have xqs5 := H10.out.c 5 rfl
  have zqs := H10.out.2.2
  have H14 := Lib.hid (Cs.newB H13.out (u1.heap.size) #[.int .i64 m.v, .int .i64 m.c, .int .i64 m.s, .int .i64 m.r, .int .i64 m.t] 24 (by simp))
  have H15 := Lib.hid (H10.out.step (al _ (.cells #[.int .i64 m.v, .int .i64 m.c, .int .i64 m.s, .int .i64 m.r, .int .i64 m.t] 24)))
  clear H10
  have H16 := Lib.hid (H11.out.step (al _ (.cells #[.int .i64 m.v, .int .i64 m.c, .int .i64 m.s, .int .i64 m.r, .int .i64 m.t] 24)))
  clear H11
  have H17 := Lib.hid (H12.out.step (al _ (.cells #[.int .i64 m.v, .int .i64 m.c, .int .i64 m.s, .int .i64 m.r, .int .i64 m.t] 24)))
  clear H12
  have H18 := Lib.hid (keep2 (al _ (.cells #[.int .i64 m.v, .int .i64 m.c, .int .i64 m.s, .int .i64 m.r, .int .i64 m.t] 24)) H13.out)
  clear H13
  have xp0 := H16.out.c 0 rfl
  have xp1 := H16.out.c 1 rfl
  have xp2 := H16.out.c 2 rfl
  have zp := H16.out.2.2
  have xm0 := H14.out.c 0 rfl
  have xm1 := H14.out.c 1 rfl
  have xm2 := H14.out.c 2 rfl
  have xm3 := H14.out.c 3 rfl
  have xm4 := H14.out.c 4 rfl
  have zm := H14.out.2.2
  go_wp2_with fail
  refine (rbtw_any (i : Int) 0 (m.c - 1) _).mono ?_
  rintro e wq19 ⟨rfl, rfl⟩
  rw [HIN.out]
  clear hw
  go_wp2_with fail
  refine (rfits_any m _ _ d _ (HDW.out.step H18.out) HMF.out HIN.out).mono ?_
  rintro e u2 ⟨rfl, b2⟩
  clear xqs0 xqs1 xqs2 xqs3 xqs4 xqs5 zqs xp0 xp1 xp2 zp xm0 xm1 xm2 xm3 xm4 zm
  have H20 := Lib.hid (H15.out.step b2)
  clear H15
  have H21 := Lib.hid (H16.out.step b2)
  clear H16
  have H22 := Lib.hid (H17.out.step b2)
  clear H17
  have H23 := Lib.hid (H14.out.step b2)
  clear H14
  have H24 := Lib.hid (keep2 b2 H18.out)
  clear H18
  clear b2
  rw [HFT.out]
  have xp0 := H21.out.c 0 rfl
  have xp1 := H21.out.c 1 rfl
  have xp2 := H21.out.c 2 rfl
  have zp := H21.out.2.2
  go_wp2_with fail
  refine (rclimbR_any _ _ d p (i : Int) _ (HDW.out.step H24.out) (HPW.out.step H24.out) HD9.out HIB.out).mono ?_
  rintro e u3 ⟨cu, rfl, -, b3⟩
  clear xp0 xp1 xp2 zp
  have H25 := Lib.hid (H20.out.step b3)
  clear H20
  have H26 := Lib.hid (H21.out.step b3)
  clear H21
  have H27 := Lib.hid (H22.out.step b3)
  clear H22
  have H28 := Lib.hid (H23.out.step b3)
  clear H23
  have H29 := Lib.hid (keep2 b3 H24.out)
  clear H24
  clear b3
  obtain ⟨cr, hcr⟩ : ∃ z9, clH d (i : Int) p = z9 := ⟨_, rfl⟩
  have HCR := Lib.hid hcr
  rw [hcr]
  clear hcr
  have xp0 := H26.out.c 0 rfl
  have xp1 := H26.out.c 1 rfl
  have xp2 := H26.out.c 2 rfl
  have zp := H26.out.2.2
  have xm0 := H28.out.c 0 rfl
  have xm1 := H28.out.c 1 rfl
  have xm2 := H28.out.c 2 rfl
  have xm3 := H28.out.c 3 rfl
  have xm4 := H28.out.c 4 rfl
  have zm := H28.out.2.2
  go_wp2_with fail
  refine (rform_c _ p i L.length m.c HMC.out _ (HPW.out.step H29.out) HL6.out HI6.out HP9.out).mono ?_
  rintro e wq30 ⟨rfl, rfl⟩
  rw [HFM.out]
  have t1 : (cr != m.r) = false := by have := HNR.out; rw [HCR.out] at this; simpa using this
  have t2 : (cr = m.r) = True := by have := HNR.out; rw [HCR.out] at this; simpa using this
  clear xp0 xp1 xp2 zp xm0 xm1 xm2 xm3 xm4 zm
  obtain ⟨UO, hUO⟩ : ∃ z9, u3 = z9 := ⟨_, rfl⟩
  rw [hUO] at H25 H26 H27 H28 H29 ⊢
  clear hUO
  have xm0 := H28.out.c 0 rfl
  have xm1 := H28.out.c 1 rfl
  have xm2 := H28.out.c 2 rfl
  have xm3 := H28.out.c 3 rfl
  have xm4 := H28.out.c 4 rfl
  have zm := H28.out.2.2
  have HO0 := Lib.hid (Cs.new UO UO.heap.size #[.int .i64 m.v, .int .i64 m.c, .int .i64 m.s, .int .i64 m.r, .int .i64 m.t, .slice none 0 0] 27 rfl)
  go_wp2_with fail
  clear xm0 xm1 xm2 xm3 xm4 zm
  clear t1 t2
  have HRL := Lib.hid (show (w.heap.size + 1 + 1) < UO.heap.size from H27.out.2.2)
  have HAL := Lib.hid (al UO (.cells #[.int .i64 m.v, .int .i64 m.c, .int .i64 m.s, .int .i64 m.r, .int .i64 m.t, .slice none 0 0] 27))
  go_loopw [10] (fun iv wr => ∃ (k : Nat) (rv : Value), k ≤ L.length ∧ iv = .int .i64 (k : Int) ∧ Hid (Cs wr UO.heap.size #[.int .i64 m.v, .int .i64 m.c, .int .i64 m.s, .int .i64 m.r, .int .i64 m.t, rv]) ∧ Hid (RwR w (UO.heap.size + 1) ((L.set i d).take k) rv wr) ∧ Hid (Below UO.heap.size UO wr)) (fun iv _ => L.length - (intOf iv).toNat)
  case atStart => exact ⟨0, .slice none 0 0, by omega, rfl, HO0, Lib.hid (RwR.nil _ _ _), HAL⟩
  case round =>
    obtain ⟨k, rv, hk, rfl, HO, HRW, HW⟩ := hrel
    obtain ⟨ra, rc, rfl⟩ := HRW.out.row
    clear HO0 HAL
    have H31 := Lib.hid (H25.out.step HW.out)
    clear H25
    have H32 := Lib.hid (H26.out.step HW.out)
    clear H26
    have H33 := Lib.hid (H27.out.step HW.out)
    clear H27
    have H34 := Lib.hid (H28.out.step HW.out)
    clear H28
    have HB := Lib.hid (keep2 HW.out H29.out)
    clear H29
    obtain ⟨l0, hl0⟩ : ∃ z9, (L.set i d).take k = z9 := ⟨_, rfl⟩
    have HL0 := Lib.hid hl0
    rw [hl0] at HRW HO
    clear hl0
    by_cases hlt : k < L.length
    rotate_left
    · skip
      obtain rfl : k = L.length := by omega
      have t3 : ¬ (L.length : Int) < (L.length : Int) := by omega
      have HL1 := Lib.hid (show l0 = L.set i d by rw [← HL0.out]; exact List.take_of_length_le (by simp))
      have xs0 := H31.out.c 0 rfl
      have xs1 := H31.out.c 1 rfl
      have xs2 := H31.out.c 2 rfl
      have xs3 := H31.out.c 3 rfl
      have xs4 := H31.out.c 4 rfl
      have xs5 := H31.out.c 5 rfl
      have zs := H31.out.2.2
      have xo0 := HO.out.c 0 rfl
      have xo1 := HO.out.c 1 rfl
      have xo2 := HO.out.c 2 rfl
      have xo3 := HO.out.c 3 rfl
      have xo4 := HO.out.c 4 rfl
      have xo5 := HO.out.c 5 rfl
      have zo := HO.out.2.2
      have xr0 := H33.out.c 0 rfl
      have xr1 := H33.out.c 1 rfl
      have xr2 := H33.out.c 2 rfl
      have xr3 := H33.out.c 3 rfl
      have xr4 := H33.out.c 4 rfl
      have xr5 := H33.out.c 5 rfl
      have zr := H33.out.2.2
      have fr0 := H33.out.f 0 (by simp)
      have fr1 := H33.out.f 1 (by simp)
      have fr2 := H33.out.f 2 (by simp)
      have fr3 := H33.out.f 3 (by simp)
      have fr4 := H33.out.f 4 (by simp)
      have fr5 := H33.out.f 5 (by simp)
      have HLE := Lib.hid (show w.heap.size ≤ (w.heap.size + 1 + 1) from by omega)
      have q90 := Lib.hid (Cs.set H33.out 0 (by simp) (.int .i64 m.v) (vs' := #[.int .i64 m.v, .int .i64 0, .int .i64 0, .int .i64 0, .int .i64 0, .slice none 0 0]) rfl)
      have q91 := Lib.hid (Cs.set q90.out 1 (by simp) (.int .i64 m.c) (vs' := #[.int .i64 m.v, .int .i64 m.c, .int .i64 0, .int .i64 0, .int .i64 0, .slice none 0 0]) rfl)
      have q92 := Lib.hid (Cs.set q91.out 2 (by simp) (.int .i64 m.s) (vs' := #[.int .i64 m.v, .int .i64 m.c, .int .i64 m.s, .int .i64 0, .int .i64 0, .slice none 0 0]) rfl)
      have q93 := Lib.hid (Cs.set q92.out 3 (by simp) (.int .i64 m.r) (vs' := #[.int .i64 m.v, .int .i64 m.c, .int .i64 m.s, .int .i64 m.r, .int .i64 0, .slice none 0 0]) rfl)
      have q94 := Lib.hid (Cs.set q93.out 4 (by simp) (.int .i64 m.t) (vs' := #[.int .i64 m.v, .int .i64 m.c, .int .i64 m.s, .int .i64 m.r, .int .i64 m.t, .slice none 0 0]) rfl)
      have q95 := Lib.hid (Cs.set q94.out 5 (by simp) (.slice ra l0.length rc) (vs' := #[.int .i64 m.v, .int .i64 m.c, .int .i64 m.s, .int .i64 m.r, .int .i64 m.t, .slice ra l0.length rc]) rfl)
      clear q90 q91 q92 q93 q94
      go_wp2
      have hC := q95.out
      have hB := ((((((HB.out.setCell (p := ⟨(w.heap.size + 1 + 1), 0, none⟩) HLE.out (.int .i64 m.v)).setCell (p := ⟨(w.heap.size + 1 + 1), 1, none⟩) HLE.out (.int .i64 m.c)).setCell (p := ⟨(w.heap.size + 1 + 1), 2, none⟩) HLE.out (.int .i64 m.s)).setCell (p := ⟨(w.heap.size + 1 + 1), 3, none⟩) HLE.out (.int .i64 m.r)).setCell (p := ⟨(w.heap.size + 1 + 1), 4, none⟩) HLE.out (.int .i64 m.t)).setCell (p := ⟨(w.heap.size + 1 + 1), 5, none⟩) HLE.out (.slice ra l0.length rc))
      have hX := (RwR.set (RwR.set (RwR.set (RwR.set (RwR.set (RwR.set HRW.out (B := (w.heap.size + 1 + 1)) (by have := HRL.out; omega) 0 (.int .i64 m.v)) (B := (w.heap.size + 1 + 1)) (by have := HRL.out; omega) 1 (.int .i64 m.c)) (B := (w.heap.size + 1 + 1)) (by have := HRL.out; omega) 2 (.int .i64 m.s)) (B := (w.heap.size + 1 + 1)) (by have := HRL.out; omega) 3 (.int .i64 m.r)) (B := (w.heap.size + 1 + 1)) (by have := HRL.out; omega) 4 (.int .i64 m.t)) (B := (w.heap.size + 1 + 1)) (by have := HRL.out; omega) 5 (.slice ra l0.length rc))
      obtain ⟨V9, hV9⟩ : ∃ z9, ((((((wr.setCell ⟨(w.heap.size + 1 + 1), 0, none⟩ (.int .i64 m.v)).setCell ⟨(w.heap.size + 1 + 1), 1, none⟩ (.int .i64 m.c)).setCell ⟨(w.heap.size + 1 + 1), 2, none⟩ (.int .i64 m.s)).setCell ⟨(w.heap.size + 1 + 1), 3, none⟩ (.int .i64 m.r)).setCell ⟨(w.heap.size + 1 + 1), 4, none⟩ (.int .i64 m.t)).setCell ⟨(w.heap.size + 1 + 1), 5, none⟩ (.slice ra l0.length rc)) = z9 := ⟨_, rfl⟩
      rw [hV9] at hC hB hX ⊢
      clear hV9
      have k0 : V9.cell? ⟨(w.heap.size + 1 + 1), 0, none⟩ = some (.int .i64 m.v) := hC.c 0 rfl
      have k1 : V9.cell? ⟨(w.heap.size + 1 + 1), 1, none⟩ = some (.int .i64 m.c) := hC.c 1 rfl
      have k2 : V9.cell? ⟨(w.heap.size + 1 + 1), 2, none⟩ = some (.int .i64 m.s) := hC.c 2 rfl
      have k3 : V9.cell? ⟨(w.heap.size + 1 + 1), 3, none⟩ = some (.int .i64 m.r) := hC.c 3 rfl
      have k4 : V9.cell? ⟨(w.heap.size + 1 + 1), 4, none⟩ = some (.int .i64 m.t) := hC.c 4 rfl
      have k5 : V9.cell? ⟨(w.heap.size + 1 + 1), 5, none⟩ = some (.slice ra l0.length rc) := hC.c 5 rfl
      exact bodyPost_ret (v := .tuple #[.agg #[.int .i64 m.v, .int .i64 m.c, .int .i64 m.s, .int .i64 m.r, .int .i64 m.t, .slice ra l0.length rc], .int .i64 0]) (by simp [results, Try.results16, go_sem, k0, k1, k2, k3, k4, k5]) rfl (⟨_, rfl, (show RowsAt V9 (.slice ra l0.length rc) (L.set i d) by
        have q := hX.at hB (by rw [HL1.out]; simp; have := HLN.out; omega)
        rw [HL1.out] at q ⊢
        exact q), hB⟩)
    have HIL := Lib.hid hlt
    have HST := Lib.hid (set_take (i := i) (d := d) hlt)
    have HK9 := Lib.hid (show l0.length ≤ 100000 by rw [← HL0.out, List.length_take]; have := HLN.out; omega)
    have HUS := Lib.hid (show UO.heap.size + 1 ≤ wr.heap.size by have := HO.out.2.2; omega)
    have t3 : (k : Int) < (L.length : Int) := by omega
    have t4 : decide ((k : Int) < (L.length : Int)) = true := decide_eq_true t3
    obtain ⟨l1, hl1⟩ : ∃ z9, (L.set i d).take (k + 1) = z9 := ⟨_, rfl⟩
    have HL1 := Lib.hid hl1.symm
    rw [hl1, HL0.out] at HST
    clear hl1
    by_cases hki : i = k
    · skip
      have HPP := Lib.hid (show l1 = l0 ++ [d] by rw [HST.out, if_pos hki])
      clear HST
      subst hki
      have t5 : ((i : Int) == (i : Int)) = true := by simp
      have xs0 := H31.out.c 0 rfl
      have xs1 := H31.out.c 1 rfl
      have xs2 := H31.out.c 2 rfl
      have xs3 := H31.out.c 3 rfl
      have xs4 := H31.out.c 4 rfl
      have xs5 := H31.out.c 5 rfl
      have zs := H31.out.2.2
      have xp0 := H32.out.c 0 rfl
      have xp1 := H32.out.c 1 rfl
      have xp2 := H32.out.c 2 rfl
      have zp := H32.out.2.2
      go_upto_region 14 with fail
      clear xs0 xs1 xs2 xs3 xs4 xs5 zs xp0 xp1 xp2 zp
      clear t3 t4 t5 hk hlt
      obtain ⟨lit, hlit⟩ : ∃ lit : (Nat → Value) → Act, lit = fun vs => { tmps := List.toArray (Value.agg #[Value.int IntKind.i64 m.v, Value.int IntKind.i64 m.c, Value.int IntKind.i64 m.s, Value.int IntKind.i64 m.r, Value.int IntKind.i64 m.t, Value.slice va L.length vc] :: Value.agg #[Value.int IntKind.i64 (i : Int), Value.slice da d.length dc, Value.slice pa p.length pc] :: Value.pointer (some { block := w.heap.size, off := 0 }) :: Value.pointer (some { block := w.heap.size + 1, off := 0 }) :: Value.pointer (some { block := w.heap.size + 1 + 1, off := 0 }) :: Value.int IntKind.i64 0 :: Value.pointer (some { block := u1.heap.size, off := 0 }) :: Value.int IntKind.i64 cr :: cu :: Value.pointer (some { block := UO.heap.size, off := 0 }) :: Value.int IntKind.i64 (i : Int) :: Value.agg #[Value.int IntKind.i64 m.v, Value.int IntKind.i64 m.c, Value.int IntKind.i64 m.s, Value.int IntKind.i64 m.r, Value.int IntKind.i64 m.t, Value.slice va L.length vc] :: Value.bool true :: Value.bool false :: undef :: Value.pointer (some { block := w.heap.size, off := 0 }) :: Value.agg #[Value.int IntKind.i64 m.v, Value.int IntKind.i64 m.c, Value.int IntKind.i64 m.s, Value.int IntKind.i64 m.r, Value.int IntKind.i64 m.t] :: Value.pointer (some { block := w.heap.size + 1, off := 0 }) :: Value.int IntKind.i64 (i : Int) :: Value.pointer (some { block := u1.heap.size, off := 1 }) :: Value.int IntKind.i64 m.c :: Value.int IntKind.i64 (wrap64 (m.c - 1)) :: Value.bool true :: Value.bool false :: Value.bool false :: Value.agg #[Value.int IntKind.i64 m.v, Value.int IntKind.i64 m.c, Value.int IntKind.i64 m.s, Value.int IntKind.i64 m.r, Value.int IntKind.i64 m.t] :: Value.pointer (some { block := w.heap.size + 1, off := 0 }) :: Value.int IntKind.i64 (i : Int) :: Value.pointer (some { block := w.heap.size + 1, off := 1 }) :: Value.slice da d.length dc :: Value.bool true :: Value.bool false :: Value.bool false :: undef :: Value.tuple #[Value.int IntKind.i64 cr, cu] :: Value.pointer (some { block := w.heap.size + 1, off := 1 }) :: Value.slice da d.length dc :: Value.pointer (some { block := w.heap.size + 1, off := 0 }) :: Value.int IntKind.i64 (i : Int) :: Value.pointer (some { block := w.heap.size + 1, off := 2 }) :: Value.slice pa p.length pc :: Value.tuple #[Value.int IntKind.i64 cr, cu] :: Value.int IntKind.i64 cr :: cu :: Value.pointer (some { block := w.heap.size + 1, off := 2 }) :: Value.slice pa p.length pc :: Value.pointer (some { block := w.heap.size + 1, off := 0 }) :: Value.int IntKind.i64 (i : Int) :: Value.pointer (some { block := u1.heap.size, off := 1 }) :: Value.int IntKind.i64 m.c :: Value.bool true :: Value.bool false :: Value.bool false :: Value.int IntKind.i64 cr :: Value.pointer (some { block := u1.heap.size, off := 3 }) :: Value.int IntKind.i64 m.r :: Value.bool false :: Value.bool false :: undef :: Value.agg #[Value.int IntKind.i64 m.v, Value.int IntKind.i64 m.c, Value.int IntKind.i64 m.s, Value.int IntKind.i64 m.r, Value.int IntKind.i64 m.t] :: Value.agg #[Value.int IntKind.i64 m.v, Value.int IntKind.i64 m.c, Value.int IntKind.i64 m.s, Value.int IntKind.i64 m.r, Value.int IntKind.i64 m.t, Value.slice none 0 0] :: Value.int IntKind.i64 (i : Int) :: Value.pointer (some { block := w.heap.size, off := 5 }) :: Value.slice va L.length vc :: Value.int IntKind.i64 (L.length : Int) :: Value.bool true :: u66 :: u67 :: Value.int IntKind.i64 (i : Int) :: Value.pointer (some { block := w.heap.size + 1, off := 0 }) :: Value.int IntKind.i64 (i : Int) :: Value.bool true :: vs 0 :: vs 1 :: vs 2 :: vs 3 :: vs 4 :: vs 5 :: vs 6 :: vs 7 :: vs 8 :: u81 :: u82 :: u83 :: u84 :: u85 :: u86 :: u87 :: u88 :: u89 :: u90 :: undef :: []), defers := [] } := ⟨_, rfl⟩
      have HLIT := Lib.hid hlit
      clear hlit
      obtain ⟨val, hval⟩ : ∃ val : List Value, val = [.pointer (some ⟨UO.heap.size, 5, none⟩), .slice ra l0.length rc, undef, .pointer (some ⟨(w.heap.size + 1), 1, none⟩), .slice da d.length dc, undef, undef, undef, .pointer (some ⟨UO.heap.size, 5, none⟩), undef] := ⟨_, rfl⟩
      have E0 := Lib.hid (show val.getD 0 undef = .pointer (some ⟨UO.heap.size, 5, none⟩) by rw [hval]; rfl)
      have E1 := Lib.hid (show val.getD 1 undef = .slice ra l0.length rc by rw [hval]; rfl)
      have E3 := Lib.hid (show val.getD 3 undef = .pointer (some ⟨(w.heap.size + 1), 1, none⟩) by rw [hval]; rfl)
      have E4 := Lib.hid (show val.getD 4 undef = .slice da d.length dc by rw [hval]; rfl)
      have E8 := Lib.hid (show val.getD 8 undef = .pointer (some ⟨UO.heap.size, 5, none⟩) by rw [hval]; rfl)
      clear hval
      obtain ⟨G, hG0⟩ : ∃ G : Bool → Nat → Value → World → Prop, G = (fun bq iq vq ww => (iq = 2 → QoE (UO.heap.size + 1) bq vq ww) ∧ (iq = 5 → QpP (UO.heap.size + 1) d bq vq ww) ∧ (iq = 6 → QeS w (UO.heap.size + 1) d bq vq ww) ∧ (iq = 7 → QwZ w (UO.heap.size + 1) l1 bq vq ww) ∧ (iq = 9 → bq = true → (∃ a9 c9, Cs ww UO.heap.size #[.int .i64 m.v, .int .i64 m.c, .int .i64 m.s, .int .i64 m.r, .int .i64 m.t, .slice a9 l1.length c9] ∧ RwR w (UO.heap.size + 1) l1 (.slice a9 l1.length c9) ww)) ∧ (iq ≠ 2 → iq ≠ 5 → iq ≠ 6 → iq ≠ 7 → iq ≠ 9 → vq = val.getD iq undef)) := ⟨_, rfl⟩
      have HG := Lib.hid hG0
      clear hG0
      refine region_inv (NS lit 7 (fun p q => (p == 7 && q == 1) || (p == 7 && q == 6) || (p == 5 && q == 2) || (p == 5 && q == 4) || (p == 6 && q == 5) || (p == 9 && q == 7)) G fun bq wv => (bq = false → Below wr.heap.size wr wv) ∧ (bq = true → Below UO.heap.size UO wv ∧ ∃ rv9, Cs wv UO.heap.size #[.int .i64 m.v, .int .i64 m.c, .int .i64 m.s, .int .i64 m.r, .int .i64 m.t, rv9])) (by kernel_rfl) (by decide +kernel) ?_ ?_ ?_
      · exact NS.start (fun i => ([u72, u73, u74, u75, u76, u77, u78, u79, u80, undef] : List Value).getD i undef) (by rw [HLIT.out]; rfl) ⟨fun _ => below_drew _ _, fun h => (by cases h)⟩
      · refine ⟨?_, ?_, ?_, ?_, ?_, ?_, ?_, ?_, ?_, ?_, trivial⟩
        · intro bf ac wv hfb haf hJ K' hK
          obtain ⟨vs, rfl, ja, hB, j4⟩ := hJ
          replace hK := Lib.hid hK
          rw [HG.out] at j4
          replace j4 := Lib.hid (And.intro ja j4)
          replace hB := Lib.hid hB
          clear ja haf
          rw [HLIT.out]
          go_simp
          exact hK.out _ _ (NS.next (wv := wv) (vs := vs) 0 (by omega) (fun q h => absurd h (by simp)) (x := .pointer (some ⟨UO.heap.size, 5, none⟩)) (by rw [HLIT.out]; rfl) (by rw [HG.out]; exact j4.out) hB.out (by rw [HG.out]; exact fun _ _ h => h) (by rw [HG.out]; exact ⟨fun h => absurd h (by decide), fun h => absurd h (by decide), fun h => absurd h (by decide), fun h => absurd h (by decide), fun h => absurd h (by decide), fun _ _ _ _ _ => E0.out.symm⟩))
        · intro bf ac wv hfb haf hJ K' hK
          obtain ⟨vs, rfl, ja, hB, j4⟩ := hJ
          replace hK := Lib.hid hK
          simp [Region.binds] at haf
          rw [HG.out] at j4
          have e0 := ((j4 0 (by simp [haf])).2.2.2.2.2 (by decide) (by decide) (by decide) (by decide) (by decide)).trans E0.out
          have hd : bf 7 = false := by
            cases h : bf 7
            · rfl
            · exact absurd ((ja 7 1 rfl h).symm.trans hfb) (by simp)
          have hM := Lib.hid (hB.1 hd)
          replace j4 := Lib.hid (And.intro ja j4)
          replace hB := Lib.hid hB
          clear ja haf
          have y5 := (HO.out.step hM.out).c 5 rfl
          have yz := (HO.out.step hM.out).2.2
          rw [HLIT.out]
          go_simp
          exact hK.out _ _ (NS.next (wv := wv) (vs := vs) 1 (by omega) (fun q h => absurd h (by simp)) (x := .slice ra l0.length rc) (by rw [HLIT.out]; simp only [upv, e0, Nat.reduceBEq, cond_true, cond_false]) (by rw [HG.out]; exact j4.out) hB.out (by rw [HG.out]; exact fun _ _ h => h) (by rw [HG.out]; exact ⟨fun h => absurd h (by decide), fun h => absurd h (by decide), fun h => absurd h (by decide), fun h => absurd h (by decide), fun h => absurd h (by decide), fun _ _ _ _ _ => E1.out.symm⟩))
        · intro bf ac wv hfb haf hJ K' hK
          obtain ⟨vs, rfl, ja, hB, j4⟩ := hJ
          replace hK := Lib.hid hK
          rw [HG.out] at j4
          have hd : bf 7 = false := by
            cases h : bf 7
            · rfl
            · exact absurd ((ja 5 2 rfl (ja 6 5 rfl (ja 7 6 rfl h))).symm.trans hfb) (by simp)
          have hM := Lib.hid (hB.1 hd)
          replace j4 := Lib.hid (And.intro ja j4)
          replace hB := Lib.hid hB
          clear ja haf
          rw [HLIT.out]
          go_simp
          have b4 := al wv (.cells #[] 3)
          exact hK.out _ _ (NS.next (wv := wv) (vs := vs) 2 (by omega) (fun q h => absurd h (by simp)) (x := (.slice (some ⟨wv.heap.size, 0, none⟩) 0 0)) (by rw [HLIT.out]; rfl) (by rw [HG.out]; exact j4.out) ⟨fun _ => keep2 b4 hM.out, fun e => absurd (e.symm.trans hd) (by simp)⟩ (by rw [HG.out]; exact fun k hbk h => ⟨fun q => ((h.1 q).step b4), fun q => ((h.2.1 q).step b4), fun q => ((h.2.2.1 q).step b4), fun q => ((h.2.2.2.1 q).off hd), fun q => (fun e => absurd (e.symm.trans hd) (by simp)), h.2.2.2.2.2⟩) (by rw [HG.out]; exact ⟨fun _ => ⟨wv.heap.size, rfl, fun _ => ⟨rfl, .inr ⟨wv.heap.size, 0, _, rfl, Nat.le_trans HUS.out hM.out.size, heap_alloc_new _ _, by omega, by unfold maxLen; omega, rfl, rfl⟩⟩⟩, fun h => absurd h (by decide), fun h => absurd h (by decide), fun h => absurd h (by decide), fun h => absurd h (by decide), fun h2 => absurd rfl h2⟩))
        · intro bf ac wv hfb haf hJ K' hK
          obtain ⟨vs, rfl, ja, hB, j4⟩ := hJ
          replace hK := Lib.hid hK
          rw [HG.out] at j4
          replace j4 := Lib.hid (And.intro ja j4)
          replace hB := Lib.hid hB
          clear ja haf
          rw [HLIT.out]
          go_simp
          exact hK.out _ _ (NS.next (wv := wv) (vs := vs) 3 (by omega) (fun q h => absurd h (by simp)) (x := .pointer (some ⟨(w.heap.size + 1), 1, none⟩)) (by rw [HLIT.out]; rfl) (by rw [HG.out]; exact j4.out) hB.out (by rw [HG.out]; exact fun _ _ h => h) (by rw [HG.out]; exact ⟨fun h => absurd h (by decide), fun h => absurd h (by decide), fun h => absurd h (by decide), fun h => absurd h (by decide), fun h => absurd h (by decide), fun _ _ _ _ _ => E3.out.symm⟩))
        · intro bf ac wv hfb haf hJ K' hK
          obtain ⟨vs, rfl, ja, hB, j4⟩ := hJ
          replace hK := Lib.hid hK
          simp [Region.binds] at haf
          rw [HG.out] at j4
          have e3 := ((j4 3 (by simp [haf])).2.2.2.2.2 (by decide) (by decide) (by decide) (by decide) (by decide)).trans E3.out
          have hd : bf 7 = false := by
            cases h : bf 7
            · rfl
            · exact absurd ((ja 5 4 rfl (ja 6 5 rfl (ja 7 6 rfl h))).symm.trans hfb) (by simp)
          have hM := Lib.hid (hB.1 hd)
          replace j4 := Lib.hid (And.intro ja j4)
          replace hB := Lib.hid hB
          clear ja haf
          have y1 := (H32.out.step hM.out).c 1 rfl
          have yz := (H32.out.step hM.out).2.2
          rw [HLIT.out]
          go_simp
          exact hK.out _ _ (NS.next (wv := wv) (vs := vs) 4 (by omega) (fun q h => absurd h (by simp)) (x := .slice da d.length dc) (by rw [HLIT.out]; simp only [upv, e3, Nat.reduceBEq, cond_true, cond_false]) (by rw [HG.out]; exact j4.out) hB.out (by rw [HG.out]; exact fun _ _ h => h) (by rw [HG.out]; exact ⟨fun h => absurd h (by decide), fun h => absurd h (by decide), fun h => absurd h (by decide), fun h => absurd h (by decide), fun h => absurd h (by decide), fun _ _ _ _ _ => E4.out.symm⟩))
        · intro bf ac wv hfb haf hJ K' hK
          obtain ⟨vs, rfl, ja, hB, j4⟩ := hJ
          replace hK := Lib.hid hK
          simp [Region.binds] at haf
          rw [HG.out] at j4
          have e2 := (j4 2 (by simp [haf])).1 rfl
          have e4 := ((j4 4 (by simp [haf])).2.2.2.2.2 (by decide) (by decide) (by decide) (by decide) (by decide)).trans E4.out
          have hd : bf 7 = false := by
            cases h : bf 7
            · rfl
            · exact absurd ((ja 6 5 rfl (ja 7 6 rfl h)).symm.trans hfb) (by simp)
          have hM := Lib.hid (hB.1 hd)
          have HA := Lib.hid (show ∀ q, (fun p q => (p == 7 && q == 1) || (p == 7 && q == 6) || (p == 5 && q == 2) || (p == 5 && q == 4) || (p == 6 && q == 5) || (p == 9 && q == 7)) 5 q = true → bf q = true from fun q hi => by
            obtain rfl | rfl : q = 2 ∨ q = 4 := by simpa [or_assoc] using hi
            all_goals simp [haf])
          replace j4 := Lib.hid (And.intro ja j4)
          replace hB := Lib.hid hB
          clear ja haf
          obtain ⟨g0, e2, hr0⟩ := e2
          replace hr0 := hr0 hd
          rw [e2] at hr0
          obtain ⟨a3, c3, w3, hr3, b4, ho3⟩ := app_nilI (HDW.out.step (keep2 hM.out HB.out)) hr0 (by have := HD9.out; omega) (Nat.le_trans HUS.out hM.out.size)
          rw [HLIT.out]
          refine step_app rfl _ _ 22 rfl _ _ _ e2 e4 hr3 ?_
          exact hK.out _ _ (NS.next (wv := wv) (vs := vs) 5 (by omega) (HA.out) (x := (.slice a3 d.length c3)) (by rw [HLIT.out]; rfl) (by rw [HG.out]; exact j4.out) ⟨fun _ => keep2 b4 hM.out, fun e => absurd (e.symm.trans hd) (by simp)⟩ (by rw [HG.out]; exact fun k hbk h => ⟨fun q => ((h.1 q).step b4), fun q => ((h.2.1 q).step b4), fun q => ((h.2.2.1 q).step b4), fun q => ((h.2.2.2.1 q).off hd), fun q => (fun e => absurd (e.symm.trans hd) (by simp)), h.2.2.2.2.2⟩) (by rw [HG.out]; exact ⟨fun h => absurd h (by decide), fun _ => ⟨a3, c3, rfl, fun _ => ho3⟩, fun h => absurd h (by decide), fun h => absurd h (by decide), fun h => absurd h (by decide), fun h2 => fun h5 => absurd rfl h5⟩))
        · intro bf ac wv hfb haf hJ K' hK
          obtain ⟨vs, rfl, ja, hB, j4⟩ := hJ
          replace hK := Lib.hid hK
          simp [Region.binds] at haf
          rw [HG.out] at j4
          have e5 := (j4 5 (by simp [haf])).2.1 rfl
          have hd : bf 7 = false := by
            cases h : bf 7
            · rfl
            · exact absurd ((ja 7 6 rfl h).symm.trans hfb) (by simp)
          have hM := Lib.hid (hB.1 hd)
          have HA := Lib.hid (show ∀ q, (fun p q => (p == 7 && q == 1) || (p == 7 && q == 6) || (p == 5 && q == 2) || (p == 5 && q == 4) || (p == 6 && q == 5) || (p == 9 && q == 7)) 6 q = true → bf q = true from fun q hi => by
            obtain rfl : q = 5 := by simpa [or_assoc] using hi
            all_goals simp [haf])
          replace j4 := Lib.hid (And.intro ja j4)
          replace hB := Lib.hid hB
          clear ja haf
          obtain ⟨pa9, pc9, e5, h5⟩ := e5
          replace h5 := Lib.hid (h5 hd)
          rw [e5] at h5
          rw [HLIT.out]
          go_simp
          have b4 := al wv (.cells #[.slice pa9 d.length pc9] 22)
          exact hK.out _ _ (NS.next (wv := wv) (vs := vs) 6 (by omega) (HA.out) (x := (.slice (some ⟨wv.heap.size, 0, none⟩) 1 1)) (by rw [HLIT.out]; simp only [upv, e5, Nat.reduceBEq, cond_true, cond_false]) (by rw [HG.out]; exact j4.out) ⟨fun _ => keep2 b4 hM.out, fun e => absurd (e.symm.trans hd) (by simp)⟩ (by rw [HG.out]; exact fun k hbk h => ⟨fun q => ((h.1 q).step b4), fun q => ((h.2.1 q).step b4), fun q => ((h.2.2.1 q).step b4), fun q => ((h.2.2.2.1 q).off hd), fun q => (fun e => absurd (e.symm.trans hd) (by simp)), h.2.2.2.2.2⟩) (by rw [HG.out]; exact ⟨fun h => absurd h (by decide), fun h => absurd h (by decide), fun _ => ⟨wv.heap.size, rfl, fun _ => ⟨_, BoxN.new wv #[.slice pa9 d.length pc9] 22, .inr (row_step h5.out b4)⟩⟩, fun h => absurd h (by decide), fun h => absurd h (by decide), fun h2 => fun h5 => fun h6 => absurd rfl h6⟩))
        · intro bf ac wv hfb haf hJ K' hK
          obtain ⟨vs, rfl, ja, hB, j4⟩ := hJ
          replace hK := Lib.hid hK
          simp [Region.binds] at haf
          rw [HG.out] at j4
          have e1 := ((j4 1 (by simp [haf])).2.2.2.2.2 (by decide) (by decide) (by decide) (by decide) (by decide)).trans E1.out
          have e6 := (j4 6 (by simp [haf])).2.2.1 rfl
          rw [hfb] at j4 hB
          try rw [hfb] at e6
          have HA := Lib.hid (show ∀ q, (fun p q => (p == 7 && q == 1) || (p == 7 && q == 6) || (p == 5 && q == 2) || (p == 5 && q == 4) || (p == 6 && q == 5) || (p == 9 && q == 7)) 7 q = true → bf q = true from fun q hi => by
            obtain rfl | rfl : q = 1 ∨ q = 6 := by simpa [or_assoc] using hi
            all_goals simp [haf])
          have hz9 : bf 9 = false := by
            cases h : bf 9
            · rfl
            · exact absurd ((ja 9 7 rfl h).symm.trans hfb) (by simp)
          have hM := Lib.hid (hB.1 rfl)
          replace j4 := Lib.hid j4
          have HE := Lib.hid (And.intro ja HA.out)
          clear ja haf hB HA
          obtain ⟨g9, e6, h10⟩ := e6
          obtain ⟨u9, hbx, hu9⟩ := h10 rfl
          obtain ⟨na, nc, w8, hr8, hb8, hp8⟩ := (HRW.out.step hM.out).app hbx hu9 HK9.out HPP.out (Nat.le_trans HUS.out hM.out.size)
          have hcs := (HO.out.step hM.out).low (N := (UO.heap.size + 1)) hb8 (by omega)
          rw [HLIT.out]
          refine step_app rfl _ _ 25 rfl _ _ _ e1 e6 hr8 ?_
          refine hK.out _ _ (NS.piv (vs := vs) (x := .slice na l1.length nc) (by rw [HLIT.out]; rfl) HE.out ⟨fun e => (by cases e), fun _ => ⟨(HW.out.trans (hM.out.mono (by have := HUS.out; omega))).trans (hb8.mono (by omega)), _, hcs⟩⟩ (fun j hj hb => ?_) (by rw [HG.out]; exact ⟨fun h => absurd h (by decide), fun h => absurd h (by decide), fun h => absurd h (by decide), fun _ => ⟨na, nc, rfl, fun _ => hp8⟩, fun h => absurd h (by decide), fun h2 => fun h5 => fun h6 => fun h7 => absurd rfl h7⟩))
          rw [HG.out]
          have q := j4.out j hb
          exact ⟨fun h => (q.1 h).put _, fun h => (q.2.1 h).put _, fun h => (q.2.2.1 h).put _, fun h => absurd h hj, fun h => (by rw [h, hz9] at hb; cases hb), q.2.2.2.2.2⟩
        · intro bf ac wv hfb haf hJ K' hK
          obtain ⟨vs, rfl, ja, hB, j4⟩ := hJ
          replace hK := Lib.hid hK
          rw [HG.out] at j4
          replace j4 := Lib.hid (And.intro ja j4)
          replace hB := Lib.hid hB
          clear ja haf
          rw [HLIT.out]
          go_simp
          exact hK.out _ _ (NS.next (wv := wv) (vs := vs) 8 (by omega) (fun q h => absurd h (by simp)) (x := .pointer (some ⟨UO.heap.size, 5, none⟩)) (by rw [HLIT.out]; rfl) (by rw [HG.out]; exact j4.out) hB.out (by rw [HG.out]; exact fun _ _ h => h) (by rw [HG.out]; exact ⟨fun h => absurd h (by decide), fun h => absurd h (by decide), fun h => absurd h (by decide), fun h => absurd h (by decide), fun h => absurd h (by decide), fun _ _ _ _ _ => E8.out.symm⟩))
        · intro bf ac wv hfb haf hJ K' hK
          obtain ⟨vs, rfl, ja, hB, j4⟩ := hJ
          replace hK := Lib.hid hK
          simp [Region.binds] at haf
          rw [HG.out] at j4
          have e7 := (j4 7 (by simp [haf])).2.2.2.1 rfl
          have e8 := ((j4 8 (by simp [haf])).2.2.2.2.2 (by decide) (by decide) (by decide) (by decide) (by decide)).trans E8.out
          have hbS : bf 7 = true := by simp [haf]
          obtain ⟨na, nc, e7, h8⟩ := e7
          replace h8 := Lib.hid (h8 hbS)
          rw [e7] at h8
          have HMB := Lib.hid (hB.2 hbS)
          obtain ⟨rv9, hcs⟩ := HMB.out.2
          replace hcs := Lib.hid hcs
          replace j4 := Lib.hid (And.intro ja j4)
          clear ja haf hB
          have y0 := hcs.out.c 5 rfl
          have y1 := hcs.out.f 5 (by simp)
          have yz := hcs.out.2.2
          rw [HLIT.out]
          go_simp
          have hn1 := Lib.hid (Cs.set hcs.out 5 (by simp) (.slice na l1.length nc) (vs' := #[.int .i64 m.v, .int .i64 m.c, .int .i64 m.s, .int .i64 m.r, .int .i64 m.t, .slice na l1.length nc]) rfl)
          have hn2 := Lib.hid (h8.out.set (B := UO.heap.size) (by omega) 5 (.slice na l1.length nc))
          refine hK.out _ _ (NS.next (wv := wv) (vs := vs) (w' := wv.setCell ⟨UO.heap.size, 5, none⟩ (.slice na l1.length nc)) 9 (by omega) (fun q h => by
            obtain rfl : q = 7 := by simpa using h
            exact hbS) (x := undef) (by rw [HLIT.out]; simp only [upv, e7, e8, Nat.reduceBEq, cond_false]) (by rw [HG.out]; exact j4.out) ⟨fun e => absurd (e.symm.trans hbS) (by simp), fun _ => ⟨HMB.out.1.setCell (p := ⟨UO.heap.size, 5, none⟩) (Nat.le_refl _) _, _, hn1.out⟩⟩ ?_ (by rw [HG.out]; exact ⟨fun h => absurd h (by decide), fun h => absurd h (by decide), fun h => absurd h (by decide), fun h => absurd h (by decide), fun _ => fun _ => ⟨na, nc, hn1.out, hn2.out⟩, fun h2 => fun h5 => fun h6 => fun h7 => fun h9 => absurd rfl h9⟩))
          rw [HG.out, hbS]
          intro kk hbk hh
          exact ⟨fun q => (hh.1 q).put _, fun q => (hh.2.1 q).put _, fun q => (hh.2.2.1 q).put _, fun q => (hh.2.2.2.1 q).set (B := UO.heap.size) (by omega) 5 _, fun q => (by rw [q, hfb] at hbk; cases hbk), hh.2.2.2.2.2⟩
      · intro bf ac wv hall hJ
        obtain ⟨vs, rfl, -, hB, j4⟩ := hJ
        rw [HG.out] at j4
        rw [hall 7 (by decide)] at hB j4
        have hM := Lib.hid (hB.2 rfl)
        clear hB
        obtain ⟨na, nc, h8, h9⟩ := (j4 9 (hall 9 (by decide))).2.2.2.2.1 rfl rfl
        have HO8 := Lib.hid h8
        have HR8 := Lib.hid h9
        have HB8 := Lib.hid hM.out.1
        clear h8 h9 hM j4 hall
        rw [HLIT.out]
        dsimp only
        clear HLIT HG
        generalize vs = us8
        have hk9 : i ≤ 1000 := by have h1 := HIL.out; have h2 := HLN.out; omega
        go_wp2
        go_roundw
        case rel => exact ⟨i + 1, .slice na l1.length nc, HIL.out, by go_num, HO8, (by rw [← HL1.out]; exact HR8), HB8⟩
        case measure => have := HIL.out; simp [intOf]; omega
    · skip
      have HPP := Lib.hid (show l1 = l0 ++ [(L.getD k [])] by rw [HST.out, if_neg hki])
      clear HST
      have t5 : ((k : Int) == (i : Int)) = false := by simp; omega
      have t6 : ¬ (k : Int) = (i : Int) := by omega
      have t7 : ¬ k = i := fun e => hki e.symm
      have xs0 := H31.out.c 0 rfl
      have xs1 := H31.out.c 1 rfl
      have xs2 := H31.out.c 2 rfl
      have xs3 := H31.out.c 3 rfl
      have xs4 := H31.out.c 4 rfl
      have xs5 := H31.out.c 5 rfl
      have zs := H31.out.2.2
      have xp0 := H32.out.c 0 rfl
      have xp1 := H32.out.c 1 rfl
      have xp2 := H32.out.c 2 rfl
      have zp := H32.out.2.2
      go_upto_region 15 with fail
      clear xs0 xs1 xs2 xs3 xs4 xs5 zs xp0 xp1 xp2 zp
      clear t3 t4 t5 t6 t7 hki hk hlt
      obtain ⟨b1, o1, rfl, cv, x0, hcv⟩ : ∃ b1 o1, va = some ⟨b1, o1, none⟩ ∧ ∃ u, w.cell? ⟨b1, o1 + k, none⟩ = some u ∧ IntsAt w u (L.getD k []) := by
        obtain ⟨a2, c2, e2, -, hx⟩ := HLW.out
        obtain ⟨b1, o1, e3, hx⟩ := hx (by intro q; have := HIL.out; rw [q] at this; simp at this)
        obtain ⟨u, h1, h2⟩ := hx k _ (rows_get HIL.out)
        have : va = a2 := by simp at e2; exact e2.1
        exact ⟨b1, o1, this.trans e3, u, h1, h2⟩
      have HCV := Lib.hid hcv
      obtain ⟨ca, cc, rfl, -, -⟩ := hcv
      obtain ⟨x, hx⟩ : ∃ z9, L.getD k [] = z9 := ⟨_, rfl⟩
      rw [hx] at x0 HCV HPP
      clear hx
      have HX0 := Lib.hid (keep1 HB.out x0)
      clear x0
      obtain ⟨lit, hlit⟩ : ∃ lit : (Nat → Value) → Act, lit = fun vs => { tmps := List.toArray (Value.agg #[Value.int IntKind.i64 m.v, Value.int IntKind.i64 m.c, Value.int IntKind.i64 m.s, Value.int IntKind.i64 m.r, Value.int IntKind.i64 m.t, Value.slice (some (⟨b1, o1, none⟩ : Addr)) L.length vc] :: Value.agg #[Value.int IntKind.i64 (i : Int), Value.slice da d.length dc, Value.slice pa p.length pc] :: Value.pointer (some { block := w.heap.size, off := 0 }) :: Value.pointer (some { block := w.heap.size + 1, off := 0 }) :: Value.pointer (some { block := w.heap.size + 1 + 1, off := 0 }) :: Value.int IntKind.i64 0 :: Value.pointer (some { block := u1.heap.size, off := 0 }) :: Value.int IntKind.i64 cr :: cu :: Value.pointer (some { block := UO.heap.size, off := 0 }) :: Value.int IntKind.i64 (k : Int) :: Value.agg #[Value.int IntKind.i64 m.v, Value.int IntKind.i64 m.c, Value.int IntKind.i64 m.s, Value.int IntKind.i64 m.r, Value.int IntKind.i64 m.t, Value.slice (some (⟨b1, o1, none⟩ : Addr)) L.length vc] :: Value.bool true :: Value.bool false :: undef :: Value.pointer (some { block := w.heap.size, off := 0 }) :: Value.agg #[Value.int IntKind.i64 m.v, Value.int IntKind.i64 m.c, Value.int IntKind.i64 m.s, Value.int IntKind.i64 m.r, Value.int IntKind.i64 m.t] :: Value.pointer (some { block := w.heap.size + 1, off := 0 }) :: Value.int IntKind.i64 (i : Int) :: Value.pointer (some { block := u1.heap.size, off := 1 }) :: Value.int IntKind.i64 m.c :: Value.int IntKind.i64 (wrap64 (m.c - 1)) :: Value.bool true :: Value.bool false :: Value.bool false :: Value.agg #[Value.int IntKind.i64 m.v, Value.int IntKind.i64 m.c, Value.int IntKind.i64 m.s, Value.int IntKind.i64 m.r, Value.int IntKind.i64 m.t] :: Value.pointer (some { block := w.heap.size + 1, off := 0 }) :: Value.int IntKind.i64 (i : Int) :: Value.pointer (some { block := w.heap.size + 1, off := 1 }) :: Value.slice da d.length dc :: Value.bool true :: Value.bool false :: Value.bool false :: undef :: Value.tuple #[Value.int IntKind.i64 cr, cu] :: Value.pointer (some { block := w.heap.size + 1, off := 1 }) :: Value.slice da d.length dc :: Value.pointer (some { block := w.heap.size + 1, off := 0 }) :: Value.int IntKind.i64 (i : Int) :: Value.pointer (some { block := w.heap.size + 1, off := 2 }) :: Value.slice pa p.length pc :: Value.tuple #[Value.int IntKind.i64 cr, cu] :: Value.int IntKind.i64 cr :: cu :: Value.pointer (some { block := w.heap.size + 1, off := 2 }) :: Value.slice pa p.length pc :: Value.pointer (some { block := w.heap.size + 1, off := 0 }) :: Value.int IntKind.i64 (i : Int) :: Value.pointer (some { block := u1.heap.size, off := 1 }) :: Value.int IntKind.i64 m.c :: Value.bool true :: Value.bool false :: Value.bool false :: Value.int IntKind.i64 cr :: Value.pointer (some { block := u1.heap.size, off := 3 }) :: Value.int IntKind.i64 m.r :: Value.bool false :: Value.bool false :: undef :: Value.agg #[Value.int IntKind.i64 m.v, Value.int IntKind.i64 m.c, Value.int IntKind.i64 m.s, Value.int IntKind.i64 m.r, Value.int IntKind.i64 m.t] :: Value.agg #[Value.int IntKind.i64 m.v, Value.int IntKind.i64 m.c, Value.int IntKind.i64 m.s, Value.int IntKind.i64 m.r, Value.int IntKind.i64 m.t, Value.slice none 0 0] :: Value.int IntKind.i64 (k : Int) :: Value.pointer (some { block := w.heap.size, off := 5 }) :: Value.slice (some (⟨b1, o1, none⟩ : Addr)) L.length vc :: Value.int IntKind.i64 (L.length : Int) :: Value.bool true :: u66 :: u67 :: Value.int IntKind.i64 (k : Int) :: Value.pointer (some { block := w.heap.size + 1, off := 0 }) :: Value.int IntKind.i64 (i : Int) :: Value.bool false :: u72 :: u73 :: u74 :: u75 :: u76 :: u77 :: u78 :: u79 :: u80 :: vs 0 :: vs 1 :: vs 2 :: vs 3 :: vs 4 :: vs 5 :: vs 6 :: vs 7 :: vs 8 :: vs 9 :: undef :: []), defers := [] } := ⟨_, rfl⟩
      have HLIT := Lib.hid hlit
      clear hlit
      obtain ⟨val, hval⟩ : ∃ val : List Value, val = [.pointer (some ⟨UO.heap.size, 5, none⟩), .slice ra l0.length rc, .pointer (some ⟨(w.heap.size), 5, none⟩), .slice (some ⟨b1, o1, none⟩) L.length vc, .int .i64 (k : Int), .pointer (some ⟨b1, o1 + k, none⟩), .slice ca x.length cc, undef, undef, .pointer (some ⟨UO.heap.size, 5, none⟩), undef] := ⟨_, rfl⟩
      have E0 := Lib.hid (show val.getD 0 undef = .pointer (some ⟨UO.heap.size, 5, none⟩) by rw [hval]; rfl)
      have E1 := Lib.hid (show val.getD 1 undef = .slice ra l0.length rc by rw [hval]; rfl)
      have E2 := Lib.hid (show val.getD 2 undef = .pointer (some ⟨(w.heap.size), 5, none⟩) by rw [hval]; rfl)
      have E3 := Lib.hid (show val.getD 3 undef = .slice (some ⟨b1, o1, none⟩) L.length vc by rw [hval]; rfl)
      have E4 := Lib.hid (show val.getD 4 undef = .int .i64 (k : Int) by rw [hval]; rfl)
      have E5 := Lib.hid (show val.getD 5 undef = .pointer (some ⟨b1, o1 + k, none⟩) by rw [hval]; rfl)
      have E6 := Lib.hid (show val.getD 6 undef = .slice ca x.length cc by rw [hval]; rfl)
      have E9 := Lib.hid (show val.getD 9 undef = .pointer (some ⟨UO.heap.size, 5, none⟩) by rw [hval]; rfl)
      clear hval
      obtain ⟨G, hG0⟩ : ∃ G : Bool → Nat → Value → World → Prop, G = (fun bq iq vq ww => (iq = 7 → QeS w (UO.heap.size + 1) x bq vq ww) ∧ (iq = 8 → QwZ w (UO.heap.size + 1) l1 bq vq ww) ∧ (iq = 10 → bq = true → (∃ a9 c9, Cs ww UO.heap.size #[.int .i64 m.v, .int .i64 m.c, .int .i64 m.s, .int .i64 m.r, .int .i64 m.t, .slice a9 l1.length c9] ∧ RwR w (UO.heap.size + 1) l1 (.slice a9 l1.length c9) ww)) ∧ (iq ≠ 7 → iq ≠ 8 → iq ≠ 10 → vq = val.getD iq undef)) := ⟨_, rfl⟩
      have HG := Lib.hid hG0
      clear hG0
      refine region_inv (NS lit 8 (fun p q => (p == 8 && q == 1) || (p == 8 && q == 7) || (p == 5 && q == 3) || (p == 6 && q == 5) || (p == 7 && q == 6) || (p == 10 && q == 8)) G fun bq wv => (bq = false → Below wr.heap.size wr wv) ∧ (bq = true → Below UO.heap.size UO wv ∧ ∃ rv9, Cs wv UO.heap.size #[.int .i64 m.v, .int .i64 m.c, .int .i64 m.s, .int .i64 m.r, .int .i64 m.t, rv9])) (by kernel_rfl) (by decide +kernel) ?_ ?_ ?_
      · exact NS.start (fun i => ([u81, u82, u83, u84, u85, u86, u87, u88, u89, u90, undef] : List Value).getD i undef) (by rw [HLIT.out]; rfl) ⟨fun _ => below_drew _ _, fun h => (by cases h)⟩
      · refine ⟨?_, ?_, ?_, ?_, ?_, ?_, ?_, ?_, ?_, ?_, ?_, trivial⟩
        · intro bf ac wv hfb haf hJ K' hK
          obtain ⟨vs, rfl, ja, hB, j4⟩ := hJ
          replace hK := Lib.hid hK
          rw [HG.out] at j4
          replace j4 := Lib.hid (And.intro ja j4)
          replace hB := Lib.hid hB
          clear ja haf
          rw [HLIT.out]
          go_simp
          exact hK.out _ _ (NS.next (wv := wv) (vs := vs) 0 (by omega) (fun q h => absurd h (by simp)) (x := .pointer (some ⟨UO.heap.size, 5, none⟩)) (by rw [HLIT.out]; rfl) (by rw [HG.out]; exact j4.out) hB.out (by rw [HG.out]; exact fun _ _ h => h) (by rw [HG.out]; exact ⟨fun h => absurd h (by decide), fun h => absurd h (by decide), fun h => absurd h (by decide), fun _ _ _ => E0.out.symm⟩))
        · intro bf ac wv hfb haf hJ K' hK
          obtain ⟨vs, rfl, ja, hB, j4⟩ := hJ
          replace hK := Lib.hid hK
          simp [Region.binds] at haf
          rw [HG.out] at j4
          have e0 := ((j4 0 (by simp [haf])).2.2.2 (by decide) (by decide) (by decide)).trans E0.out
          have hd : bf 8 = false := by
            cases h : bf 8
            · rfl
            · exact absurd ((ja 8 1 rfl h).symm.trans hfb) (by simp)
          have hM := Lib.hid (hB.1 hd)
          replace j4 := Lib.hid (And.intro ja j4)
          replace hB := Lib.hid hB
          clear ja haf
          have y5 := (HO.out.step hM.out).c 5 rfl
          have yz := (HO.out.step hM.out).2.2
          rw [HLIT.out]
          go_simp
          exact hK.out _ _ (NS.next (wv := wv) (vs := vs) 1 (by omega) (fun q h => absurd h (by simp)) (x := .slice ra l0.length rc) (by rw [HLIT.out]; simp only [upv, e0, Nat.reduceBEq, cond_true, cond_false]) (by rw [HG.out]; exact j4.out) hB.out (by rw [HG.out]; exact fun _ _ h => h) (by rw [HG.out]; exact ⟨fun h => absurd h (by decide), fun h => absurd h (by decide), fun h => absurd h (by decide), fun _ _ _ => E1.out.symm⟩))
        · intro bf ac wv hfb haf hJ K' hK
          obtain ⟨vs, rfl, ja, hB, j4⟩ := hJ
          replace hK := Lib.hid hK
          rw [HG.out] at j4
          replace j4 := Lib.hid (And.intro ja j4)
          replace hB := Lib.hid hB
          clear ja haf
          rw [HLIT.out]
          go_simp
          exact hK.out _ _ (NS.next (wv := wv) (vs := vs) 2 (by omega) (fun q h => absurd h (by simp)) (x := .pointer (some ⟨(w.heap.size), 5, none⟩)) (by rw [HLIT.out]; rfl) (by rw [HG.out]; exact j4.out) hB.out (by rw [HG.out]; exact fun _ _ h => h) (by rw [HG.out]; exact ⟨fun h => absurd h (by decide), fun h => absurd h (by decide), fun h => absurd h (by decide), fun _ _ _ => E2.out.symm⟩))
        · intro bf ac wv hfb haf hJ K' hK
          obtain ⟨vs, rfl, ja, hB, j4⟩ := hJ
          replace hK := Lib.hid hK
          simp [Region.binds] at haf
          rw [HG.out] at j4
          have e2 := ((j4 2 (by simp [haf])).2.2.2 (by decide) (by decide) (by decide)).trans E2.out
          have hd : bf 8 = false := by
            cases h : bf 8
            · rfl
            · exact absurd ((ja 5 3 rfl (ja 6 5 rfl (ja 7 6 rfl (ja 8 7 rfl h)))).symm.trans hfb) (by simp)
          have hM := Lib.hid (hB.1 hd)
          replace j4 := Lib.hid (And.intro ja j4)
          replace hB := Lib.hid hB
          clear ja haf
          have y5 := (H31.out.step hM.out).c 5 rfl
          have yz := (H31.out.step hM.out).2.2
          rw [HLIT.out]
          go_simp
          exact hK.out _ _ (NS.next (wv := wv) (vs := vs) 3 (by omega) (fun q h => absurd h (by simp)) (x := .slice (some ⟨b1, o1, none⟩) L.length vc) (by rw [HLIT.out]; simp only [upv, e2, Nat.reduceBEq, cond_true, cond_false]) (by rw [HG.out]; exact j4.out) hB.out (by rw [HG.out]; exact fun _ _ h => h) (by rw [HG.out]; exact ⟨fun h => absurd h (by decide), fun h => absurd h (by decide), fun h => absurd h (by decide), fun _ _ _ => E3.out.symm⟩))
        · intro bf ac wv hfb haf hJ K' hK
          obtain ⟨vs, rfl, ja, hB, j4⟩ := hJ
          replace hK := Lib.hid hK
          rw [HG.out] at j4
          replace j4 := Lib.hid (And.intro ja j4)
          replace hB := Lib.hid hB
          clear ja haf
          rw [HLIT.out]
          go_simp
          exact hK.out _ _ (NS.next (wv := wv) (vs := vs) 4 (by omega) (fun q h => absurd h (by simp)) (x := .int .i64 (k : Int)) (by rw [HLIT.out]; rfl) (by rw [HG.out]; exact j4.out) hB.out (by rw [HG.out]; exact fun _ _ h => h) (by rw [HG.out]; exact ⟨fun h => absurd h (by decide), fun h => absurd h (by decide), fun h => absurd h (by decide), fun _ _ _ => E4.out.symm⟩))
        · intro bf ac wv hfb haf hJ K' hK
          obtain ⟨vs, rfl, ja, hB, j4⟩ := hJ
          replace hK := Lib.hid hK
          simp [Region.binds] at haf
          rw [HG.out] at j4
          have e3 := ((j4 3 (by simp [haf])).2.2.2 (by decide) (by decide) (by decide)).trans E3.out
          have e4 := ((j4 4 (by simp [haf])).2.2.2 (by decide) (by decide) (by decide)).trans E4.out
          have HA := Lib.hid (show ∀ q, (fun p q => (p == 8 && q == 1) || (p == 8 && q == 7) || (p == 5 && q == 3) || (p == 6 && q == 5) || (p == 7 && q == 6) || (p == 10 && q == 8)) 5 q = true → bf q = true from fun q hi => by
            obtain rfl : q = 3 := by simpa [or_assoc] using hi
            all_goals simp [haf])
          replace j4 := Lib.hid (And.intro ja j4)
          replace hB := Lib.hid hB
          clear ja haf
          have t3 := HIL.out
          rw [HLIT.out]
          go_simp
          exact hK.out _ _ (NS.next (wv := wv) (vs := vs) 5 (by omega) (HA.out) (x := .pointer (some ⟨b1, o1 + k, none⟩)) (by rw [HLIT.out]; simp only [upv, e3, e4, Nat.reduceBEq, cond_true, cond_false]) (by rw [HG.out]; exact j4.out) hB.out (by rw [HG.out]; exact fun _ _ h => h) (by rw [HG.out]; exact ⟨fun h => absurd h (by decide), fun h => absurd h (by decide), fun h => absurd h (by decide), fun _ _ _ => E5.out.symm⟩))
        · intro bf ac wv hfb haf hJ K' hK
          obtain ⟨vs, rfl, ja, hB, j4⟩ := hJ
          replace hK := Lib.hid hK
          simp [Region.binds] at haf
          rw [HG.out] at j4
          have e5 := ((j4 5 (by simp [haf])).2.2.2 (by decide) (by decide) (by decide)).trans E5.out
          have hd : bf 8 = false := by
            cases h : bf 8
            · rfl
            · exact absurd ((ja 7 6 rfl (ja 8 7 rfl h)).symm.trans hfb) (by simp)
          have hM := Lib.hid (hB.1 hd)
          have HA := Lib.hid (show ∀ q, (fun p q => (p == 8 && q == 1) || (p == 8 && q == 7) || (p == 5 && q == 3) || (p == 6 && q == 5) || (p == 7 && q == 6) || (p == 10 && q == 8)) 6 q = true → bf q = true from fun q hi => by
            obtain rfl : q = 5 := by simpa [or_assoc] using hi
            all_goals simp [haf])
          replace j4 := Lib.hid (And.intro ja j4)
          replace hB := Lib.hid hB
          clear ja haf
          have q0 := keep1 hM.out HX0.out
          have qz := World.block_lt_of_cell? _ _ q0
          have qz : b1 < wv.heap.size := qz
          rw [HLIT.out]
          go_simp
          exact hK.out _ _ (NS.next (wv := wv) (vs := vs) 6 (by omega) (HA.out) (x := .slice ca x.length cc) (by rw [HLIT.out]; simp only [upv, e5, Nat.reduceBEq, cond_true, cond_false]) (by rw [HG.out]; exact j4.out) hB.out (by rw [HG.out]; exact fun _ _ h => h) (by rw [HG.out]; exact ⟨fun h => absurd h (by decide), fun h => absurd h (by decide), fun h => absurd h (by decide), fun _ _ _ => E6.out.symm⟩))
        · intro bf ac wv hfb haf hJ K' hK
          obtain ⟨vs, rfl, ja, hB, j4⟩ := hJ
          replace hK := Lib.hid hK
          simp [Region.binds] at haf
          rw [HG.out] at j4
          have e6 := ((j4 6 (by simp [haf])).2.2.2 (by decide) (by decide) (by decide)).trans E6.out
          have hd : bf 8 = false := by
            cases h : bf 8
            · rfl
            · exact absurd ((ja 8 7 rfl h).symm.trans hfb) (by simp)
          have hM := Lib.hid (hB.1 hd)
          have HA := Lib.hid (show ∀ q, (fun p q => (p == 8 && q == 1) || (p == 8 && q == 7) || (p == 5 && q == 3) || (p == 6 && q == 5) || (p == 7 && q == 6) || (p == 10 && q == 8)) 7 q = true → bf q = true from fun q hi => by
            obtain rfl : q = 6 := by simpa [or_assoc] using hi
            all_goals simp [haf])
          replace j4 := Lib.hid (And.intro ja j4)
          replace hB := Lib.hid hB
          clear ja haf
          rw [HLIT.out]
          go_simp
          have b4 := al wv (.cells #[.slice ca x.length cc] 22)
          exact hK.out _ _ (NS.next (wv := wv) (vs := vs) 7 (by omega) (HA.out) (x := (.slice (some ⟨wv.heap.size, 0, none⟩) 1 1)) (by rw [HLIT.out]; simp only [upv, e6, Nat.reduceBEq, cond_true, cond_false]) (by rw [HG.out]; exact j4.out) ⟨fun _ => keep2 b4 hM.out, fun e => absurd (e.symm.trans hd) (by simp)⟩ (by rw [HG.out]; exact fun k hbk h => ⟨fun q => ((h.1 q).step b4), fun q => ((h.2.1 q).off hd), fun q => (fun e => absurd (e.symm.trans hd) (by simp)), h.2.2.2⟩) (by rw [HG.out]; exact ⟨fun _ => ⟨wv.heap.size, rfl, fun _ => ⟨_, BoxN.new wv #[.slice ca x.length cc] 22, .inl HCV.out⟩⟩, fun h => absurd h (by decide), fun h => absurd h (by decide), fun h7 => absurd rfl h7⟩))
        · intro bf ac wv hfb haf hJ K' hK
          obtain ⟨vs, rfl, ja, hB, j4⟩ := hJ
          replace hK := Lib.hid hK
          simp [Region.binds] at haf
          rw [HG.out] at j4
          have e1 := ((j4 1 (by simp [haf])).2.2.2 (by decide) (by decide) (by decide)).trans E1.out
          have e7 := (j4 7 (by simp [haf])).1 rfl
          rw [hfb] at j4 hB
          try rw [hfb] at e7
          have HA := Lib.hid (show ∀ q, (fun p q => (p == 8 && q == 1) || (p == 8 && q == 7) || (p == 5 && q == 3) || (p == 6 && q == 5) || (p == 7 && q == 6) || (p == 10 && q == 8)) 8 q = true → bf q = true from fun q hi => by
            obtain rfl | rfl : q = 1 ∨ q = 7 := by simpa [or_assoc] using hi
            all_goals simp [haf])
          have hz10 : bf 10 = false := by
            cases h : bf 10
            · rfl
            · exact absurd ((ja 10 8 rfl h).symm.trans hfb) (by simp)
          have hM := Lib.hid (hB.1 rfl)
          replace j4 := Lib.hid j4
          have HE := Lib.hid (And.intro ja HA.out)
          clear ja haf hB HA
          obtain ⟨g9, e7, h10⟩ := e7
          obtain ⟨u9, hbx, hu9⟩ := h10 rfl
          obtain ⟨na, nc, w8, hr8, hb8, hp8⟩ := (HRW.out.step hM.out).app hbx hu9 HK9.out HPP.out (Nat.le_trans HUS.out hM.out.size)
          have hcs := (HO.out.step hM.out).low (N := (UO.heap.size + 1)) hb8 (by omega)
          rw [HLIT.out]
          refine step_app rfl _ _ 25 rfl _ _ _ e1 e7 hr8 ?_
          refine hK.out _ _ (NS.piv (vs := vs) (x := .slice na l1.length nc) (by rw [HLIT.out]; rfl) HE.out ⟨fun e => (by cases e), fun _ => ⟨(HW.out.trans (hM.out.mono (by have := HUS.out; omega))).trans (hb8.mono (by omega)), _, hcs⟩⟩ (fun j hj hb => ?_) (by rw [HG.out]; exact ⟨fun h => absurd h (by decide), fun _ => ⟨na, nc, rfl, fun _ => hp8⟩, fun h => absurd h (by decide), fun h7 => fun h8 => absurd rfl h8⟩))
          rw [HG.out]
          have q := j4.out j hb
          exact ⟨fun h => (q.1 h).put _, fun h => absurd h hj, fun h => (by rw [h, hz10] at hb; cases hb), q.2.2.2⟩
        · intro bf ac wv hfb haf hJ K' hK
          obtain ⟨vs, rfl, ja, hB, j4⟩ := hJ
          replace hK := Lib.hid hK
          rw [HG.out] at j4
          replace j4 := Lib.hid (And.intro ja j4)
          replace hB := Lib.hid hB
          clear ja haf
          rw [HLIT.out]
          go_simp
          exact hK.out _ _ (NS.next (wv := wv) (vs := vs) 9 (by omega) (fun q h => absurd h (by simp)) (x := .pointer (some ⟨UO.heap.size, 5, none⟩)) (by rw [HLIT.out]; rfl) (by rw [HG.out]; exact j4.out) hB.out (by rw [HG.out]; exact fun _ _ h => h) (by rw [HG.out]; exact ⟨fun h => absurd h (by decide), fun h => absurd h (by decide), fun h => absurd h (by decide), fun _ _ _ => E9.out.symm⟩))
        · intro bf ac wv hfb haf hJ K' hK
          obtain ⟨vs, rfl, ja, hB, j4⟩ := hJ
          replace hK := Lib.hid hK
          simp [Region.binds] at haf
          rw [HG.out] at j4
          have e8 := (j4 8 (by simp [haf])).2.1 rfl
          have e9 := ((j4 9 (by simp [haf])).2.2.2 (by decide) (by decide) (by decide)).trans E9.out
          have hbS : bf 8 = true := by simp [haf]
          obtain ⟨na, nc, e8, h8⟩ := e8
          replace h8 := Lib.hid (h8 hbS)
          rw [e8] at h8
          have HMB := Lib.hid (hB.2 hbS)
          obtain ⟨rv9, hcs⟩ := HMB.out.2
          replace hcs := Lib.hid hcs
          replace j4 := Lib.hid (And.intro ja j4)
          clear ja haf hB
          have y0 := hcs.out.c 5 rfl
          have y1 := hcs.out.f 5 (by simp)
          have yz := hcs.out.2.2
          rw [HLIT.out]
          go_simp
          have hn1 := Lib.hid (Cs.set hcs.out 5 (by simp) (.slice na l1.length nc) (vs' := #[.int .i64 m.v, .int .i64 m.c, .int .i64 m.s, .int .i64 m.r, .int .i64 m.t, .slice na l1.length nc]) rfl)
          have hn2 := Lib.hid (h8.out.set (B := UO.heap.size) (by omega) 5 (.slice na l1.length nc))
          refine hK.out _ _ (NS.next (wv := wv) (vs := vs) (w' := wv.setCell ⟨UO.heap.size, 5, none⟩ (.slice na l1.length nc)) 10 (by omega) (fun q h => by
            obtain rfl : q = 8 := by simpa using h
            exact hbS) (x := undef) (by rw [HLIT.out]; simp only [upv, e8, e9, Nat.reduceBEq, cond_false]) (by rw [HG.out]; exact j4.out) ⟨fun e => absurd (e.symm.trans hbS) (by simp), fun _ => ⟨HMB.out.1.setCell (p := ⟨UO.heap.size, 5, none⟩) (Nat.le_refl _) _, _, hn1.out⟩⟩ ?_ (by rw [HG.out]; exact ⟨fun h => absurd h (by decide), fun h => absurd h (by decide), fun _ => fun _ => ⟨na, nc, hn1.out, hn2.out⟩, fun h7 => fun h8 => fun h10 => absurd rfl h10⟩))
          rw [HG.out, hbS]
          intro kk hbk hh
          exact ⟨fun q => (hh.1 q).put _, fun q => (hh.2.1 q).set (B := UO.heap.size) (by omega) 5 _, fun q => (by rw [q, hfb] at hbk; cases hbk), hh.2.2.2⟩
      · intro bf ac wv hall hJ
        obtain ⟨vs, rfl, -, hB, j4⟩ := hJ
        rw [HG.out] at j4
        rw [hall 8 (by decide)] at hB j4
        have hM := Lib.hid (hB.2 rfl)
        clear hB
        obtain ⟨na, nc, h8, h9⟩ := (j4 10 (hall 10 (by decide))).2.2.1 rfl rfl
        have HO8 := Lib.hid h8
        have HR8 := Lib.hid h9
        have HB8 := Lib.hid hM.out.1
        clear h8 h9 hM j4 hall
        rw [HLIT.out]
        dsimp only
        clear HLIT HG
        generalize vs = us8
        have hk9 : k ≤ 1000 := by have h1 := HIL.out; have h2 := HLN.out; omega
        go_wp2
        go_roundw
        case rel => exact ⟨k + 1, .slice na l1.length nc, HIL.out, by go_num, HO8, (by rw [← HL1.out]; exact HR8), HB8⟩
        case measure => have := HIL.out; simp [intOf]; omega
set_option maxRecDepth 100000 in
set_option maxHeartbeats 8000000 in
theorem radd_any (m : Mf) (i : Int) (v : Value) (L : List (List Int)) (vd : Value) (d : List Int) (vp : Value) (p : List Int) (w : World) (h : RowsAt w v L) (hd : IntsAt w vd d) (hp : IntsAt w vp p) (h9 : L.length ≤ 1000) (h8 : ∀ x ∈ L, x.length ≤ 1000) (hd9 : d.length ≤ 1000) (hp9 : p.length ≤ 1000) {E : Int} {L' : List (List Int)} (hE : adE m L i d p = E) (hL : raL m L i d p = L') : Calls Try.prog 16 #[.agg #[.int .i64 m.v, .int .i64 m.c, .int .i64 m.s, .int .i64 m.r, .int .i64 m.t, v], .agg #[.int .i64 i, vd, vp]] w (ChS m L' E w) := by
  subst hL hE
  cases h1 : slB m L
  · have e : adE m L i d p = 1 := by unfold adE; rw [if_pos h1]
    rw [show raL m L i d p = L by unfold raL; rw [e, if_neg (by simp)], e]
    exact radd_a m i v L vd d vp p w h hd hp h9 h8 hd9 hp9 h1
  · cases h2 : ftB m i d
    · have e : adE m L i d p = 24 := by unfold adE; rw [if_neg (by rw [h1]; simp), if_pos h2]
      rw [show raL m L i d p = L by unfold raL; rw [e, if_neg (by simp)], e]
      cases h3 : inB 0 (m.c - 1) i
      · exact radd_f1 m i v L vd d vp p w h hd hp h9 h8 hd9 hp9 h1 h3
      · exact radd_f2 m i v L vd d vp p w h hd hp h9 h8 hd9 hp9 h1 h3 h2
    · have hi := ft_lt h2
      have hl := sl_len h1
      have h3 : inB 0 (m.c - 1) i = true := inB_iff.2 (by omega)
      obtain ⟨k, rfl⟩ : ∃ k : Nat, i = k := ⟨i.toNat, by omega⟩
      have hk : k < L.length := by omega
      have no : prB m k L.length d p = false → adE m L k d p = 17 ∧ raL m L k d p = L := fun q => by
        have e : adE m L k d p = 17 := by unfold adE; rw [if_neg (by rw [h1]; simp), if_neg (by rw [h2]; simp), if_pos (by simpa using q)]
        exact ⟨e, by unfold raL; rw [e, if_neg (by simp)]⟩
      cases h4 : fmOK (fmL k L.length) p
      · obtain ⟨e1, e2⟩ := no (by unfold prB; rw [h4]; rfl)
        rw [e1, e2]
        exact radd_p1 m k v L vd d vp p w h hd hp h9 h8 hd9 hp9 h1 h3 h2 hk h4
      · by_cases h5 : clH d (k : Int) p = m.r
        · have hp1 : prB m k L.length d p = true := by unfold prB; rw [h4, decide_eq_true h5]; rfl
          have e : adE m L k d p = 0 := by unfold adE; rw [if_neg (by rw [h1]; simp), if_neg (by rw [h2]; simp), if_neg (by simp [hp1])]
          rw [show raL m L k d p = L.set k d by unfold raL; rw [e, if_pos rfl]; simp, e]
          exact radd_ok m k v L vd d vp p w h hd hp h9 h8 hd9 hp9 h1 h3 h2 hk h4 h5
        · obtain ⟨e1, e2⟩ := no (by unfold prB; rw [h4, decide_eq_false h5]; rfl)
          rw [e1, e2]
          exact radd_p2 m k v L vd d vp p w h hd hp h9 h8 hd9 hp9 h1 h3 h2 hk h4 h5
end Go.Proofs.Yteodafhgfcbdpaa
