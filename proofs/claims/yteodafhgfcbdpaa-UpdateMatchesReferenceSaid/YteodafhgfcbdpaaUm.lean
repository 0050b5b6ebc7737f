import Derived.Test.YteodafhgfcbdpaaUl
namespace Go.Proofs.Yteodafhgfcbdpaa
open Go.RowKit

/-- A slot of its own is returned, and a number. -/
def ChO (M : Mf) (L : List (List Int)) (E : Int) (w : World) (e : Ending) (w' : World) : Prop := ∃ u n2, e = .returned (.tuple #[.agg #[.int .i64 M.v, .int .i64 M.c, .int .i64 M.s, .int .i64 M.r, .int .i64 M.t, u], .int .i64 E]) ∧ w.heap.size ≤ n2 ∧ OwR 0 n2 L u w' ∧ Below w.heap.size w w'
theorem sl_mf {m : Mf} {L : List (List Int)} (h : slB m L = true) : mfB m = true := by
  unfold slB at h; rw [Bool.and_eq_true] at h; exact h.1
theorem sl_len {m : Mf} {L : List (List Int)} (h : slB m L = true) : m.c = (L.length : Int) := by
  unfold slB at h; simp only [Bool.and_eq_true, decide_eq_true_eq] at h; exact h.2.1.symm
set_option maxRecDepth 100000 in
set_option maxHeartbeats 8000000 in
theorem add_a (m : Mf) (i : Int) (v : Value) (L : List (List Int)) (vd : Value) (d : List Int) (vp : Value) (p : List Int) (w : World) (h : RowsAt w v L) (hd : IntsAt w vd d) (hp : CapI w vp p) (h9 : L.length ≤ 1000) (h8 : ∀ x ∈ L, x.length ≤ 1000) (_ : d.length ≤ 1000) (hsl : slB m L = false) : Calls Try.prog 15 #[.agg #[.int .i64 m.v, .int .i64 m.c, .int .i64 m.s, .int .i64 m.r, .int .i64 m.t, v], .agg #[.int .i64 (i : Int), vd, vp]] w (ChO m L 1 w) := by
  have HSL := Lib.hid hsl
  clear hsl
  obtain ⟨va, vc, rfl, -, -⟩ : ∃ (a : Option Addr) (c : Nat), v = .slice a L.length c ∧ True ∧ True := by
    obtain ⟨a, c, e, -⟩ := h
    exact ⟨a, c, e, trivial, trivial⟩
  obtain ⟨da, dc, rfl, -, -⟩ : ∃ (a : Option Addr) (c : Nat), vd = .slice a d.length c ∧ True ∧ True := by
    obtain ⟨a, c, e, -⟩ := hd
    exact ⟨a, c, e, trivial, trivial⟩
  obtain ⟨pa, pc, rfl, -⟩ : ∃ (a : Option Addr) (c : Nat), vp = .slice a p.length c ∧ True := by
    obtain ⟨-, a, c, e, -⟩ := hp
    exact ⟨a, c, e, trivial⟩
  have HLW := Lib.hid h
  have H9 := Lib.hid h9
  have H8 := Lib.hid h8
  have H0 := Lib.hid (Below.refl w.heap.size w)
  have H1 := Lib.hid (h)
  have H2 := Lib.hid (hd)
  have H3 := Lib.hid (hp)
  clear h hd hp h9 h8
  have H4 := Lib.hid (Cs.newB H0.out (w.heap.size) #[.int .i64 m.v, .int .i64 m.c, .int .i64 m.s, .int .i64 m.r, .int .i64 m.t, .slice va L.length vc] 27 (by simp))
  have H5 := Lib.hid (H1.out.step (al _ (.cells #[.int .i64 m.v, .int .i64 m.c, .int .i64 m.s, .int .i64 m.r, .int .i64 m.t, .slice va L.length vc] 27)))
  clear H1
  have H6 := Lib.hid (H2.out.step (al _ (.cells #[.int .i64 m.v, .int .i64 m.c, .int .i64 m.s, .int .i64 m.r, .int .i64 m.t, .slice va L.length vc] 27)))
  clear H2
  have H7 := Lib.hid (H3.out.step (al _ (.cells #[.int .i64 m.v, .int .i64 m.c, .int .i64 m.s, .int .i64 m.r, .int .i64 m.t, .slice va L.length vc] 27)))
  clear H3
  have H8 := Lib.hid (keep2 (al _ (.cells #[.int .i64 m.v, .int .i64 m.c, .int .i64 m.s, .int .i64 m.r, .int .i64 m.t, .slice va L.length vc] 27)) H0.out)
  clear H0
  have H9 := Lib.hid (Cs.newB H8.out (w.heap.size + 1) #[.int .i64 (i : Int), .slice da d.length dc, .slice pa p.length pc] 29 (by simp))
  have H10 := Lib.hid (H5.out.step (al _ (.cells #[.int .i64 (i : Int), .slice da d.length dc, .slice pa p.length pc] 29)))
  clear H5
  have H11 := Lib.hid (H6.out.step (al _ (.cells #[.int .i64 (i : Int), .slice da d.length dc, .slice pa p.length pc] 29)))
  clear H6
  have H12 := Lib.hid (H7.out.step (al _ (.cells #[.int .i64 (i : Int), .slice da d.length dc, .slice pa p.length pc] 29)))
  clear H7
  have H13 := Lib.hid (H4.out.step (al _ (.cells #[.int .i64 (i : Int), .slice da d.length dc, .slice pa p.length pc] 29)))
  clear H4
  have H14 := Lib.hid (keep2 (al _ (.cells #[.int .i64 (i : Int), .slice da d.length dc, .slice pa p.length pc] 29)) H8.out)
  clear H8
  have H15 := Lib.hid (Cs.newB H14.out (w.heap.size + 1 + 1) #[.int .i64 0, .int .i64 0, .int .i64 0, .int .i64 0, .int .i64 0, .slice none 0 0] 27 (by simp))
  have H16 := Lib.hid (H10.out.step (al _ (.cells #[.int .i64 0, .int .i64 0, .int .i64 0, .int .i64 0, .int .i64 0, .slice none 0 0] 27)))
  clear H10
  have H17 := Lib.hid (H11.out.step (al _ (.cells #[.int .i64 0, .int .i64 0, .int .i64 0, .int .i64 0, .int .i64 0, .slice none 0 0] 27)))
  clear H11
  have H18 := Lib.hid (H12.out.step (al _ (.cells #[.int .i64 0, .int .i64 0, .int .i64 0, .int .i64 0, .int .i64 0, .slice none 0 0] 27)))
  clear H12
  have H19 := Lib.hid (H13.out.step (al _ (.cells #[.int .i64 0, .int .i64 0, .int .i64 0, .int .i64 0, .int .i64 0, .slice none 0 0] 27)))
  clear H13
  have H20 := Lib.hid (H9.out.step (al _ (.cells #[.int .i64 0, .int .i64 0, .int .i64 0, .int .i64 0, .int .i64 0, .slice none 0 0] 27)))
  clear H9
  have H21 := Lib.hid (keep2 (al _ (.cells #[.int .i64 0, .int .i64 0, .int .i64 0, .int .i64 0, .int .i64 0, .slice none 0 0] 27)) H14.out)
  clear H14
  go_enter Try.func15, Try.ntmps15
  have xs0 := H19.out.c 0 rfl
  have xs1 := H19.out.c 1 rfl
  have xs2 := H19.out.c 2 rfl
  have xs3 := H19.out.c 3 rfl
  have xs4 := H19.out.c 4 rfl
  have xs5 := H19.out.c 5 rfl
  have zs := H19.out.2.2
  have xp0 := H20.out.c 0 rfl
  have xp1 := H20.out.c 1 rfl
  have xp2 := H20.out.c 2 rfl
  have zp := H20.out.2.2
  have xr0 := H15.out.c 0 rfl
  have xr1 := H15.out.c 1 rfl
  have xr2 := H15.out.c 2 rfl
  have xr3 := H15.out.c 3 rfl
  have xr4 := H15.out.c 4 rfl
  have xr5 := H15.out.c 5 rfl
  have zr := H15.out.2.2
  go_wp2_with fail
  refine (copied_any m _ L w _ H21.out HLW.out H9.out H8.out).mono ?_
  rintro e u1 ⟨u, rfl, hu, b1⟩
  clear xs0 xs1 xs2 xs3 xs4 xs5 zs xp0 xp1 xp2 zp xr0 xr1 xr2 xr3 xr4 xr5 zr
  have H22 := Lib.hid (H16.out.step b1)
  clear H16
  have H23 := Lib.hid (H17.out.step b1)
  clear H17
  have H24 := Lib.hid (H18.out.step b1)
  clear H18
  have H25 := Lib.hid (H19.out.step b1)
  clear H19
  have H26 := Lib.hid (H20.out.step b1)
  clear H20
  have H27 := Lib.hid (H15.out.step b1)
  clear H15
  have H28 := Lib.hid (keep2 b1 H21.out)
  clear H21
  clear b1
  rw [show (((w.alloc (.cells #[.int .i64 m.v, .int .i64 m.c, .int .i64 m.s, .int .i64 m.r, .int .i64 m.t, .slice va L.length vc] 27)).alloc (.cells #[.int .i64 (i : Int), .slice da d.length dc, .slice pa p.length pc] 29)).alloc (.cells #[.int .i64 0, .int .i64 0, .int .i64 0, .int .i64 0, .int .i64 0, .slice none 0 0] 27)).heap.size = w.heap.size + 3 by simp] at hu
  obtain ⟨ua, uc, rfl, HGA⟩ : ∃ (a : Option Addr) (c : Nat), u = .slice a L.length c ∧ Hid (∀ g, a = some ⟨g, 0, none⟩ → L ≠ [] → g < u1.heap.size) := by
    obtain ⟨a, c, e, -, q⟩ := hu
    refine ⟨a, c, e, Lib.hid fun g hg hl => ?_⟩
    obtain ⟨g2, e2, -, h3, -⟩ := q hl
    obtain rfl : g = g2 := by rw [hg] at e2; simpa using e2
    exact h3
  have H29 := Lib.hid (hu)
  clear hu
  have H30 := Lib.hid (Cs.newB H28.out (u1.heap.size) #[.int .i64 m.v, .int .i64 m.c, .int .i64 m.s, .int .i64 m.r, .int .i64 m.t, .slice ua L.length uc] 27 (by simp))
  have H31 := Lib.hid (H22.out.step (al _ (.cells #[.int .i64 m.v, .int .i64 m.c, .int .i64 m.s, .int .i64 m.r, .int .i64 m.t, .slice ua L.length uc] 27)))
  clear H22
  have H32 := Lib.hid (H23.out.step (al _ (.cells #[.int .i64 m.v, .int .i64 m.c, .int .i64 m.s, .int .i64 m.r, .int .i64 m.t, .slice ua L.length uc] 27)))
  clear H23
  have H33 := Lib.hid (H24.out.step (al _ (.cells #[.int .i64 m.v, .int .i64 m.c, .int .i64 m.s, .int .i64 m.r, .int .i64 m.t, .slice ua L.length uc] 27)))
  clear H24
  have H34 := Lib.hid (H25.out.step (al _ (.cells #[.int .i64 m.v, .int .i64 m.c, .int .i64 m.s, .int .i64 m.r, .int .i64 m.t, .slice ua L.length uc] 27)))
  clear H25
  have H35 := Lib.hid (H26.out.step (al _ (.cells #[.int .i64 m.v, .int .i64 m.c, .int .i64 m.s, .int .i64 m.r, .int .i64 m.t, .slice ua L.length uc] 27)))
  clear H26
  have H36 := Lib.hid (H27.out.step (al _ (.cells #[.int .i64 m.v, .int .i64 m.c, .int .i64 m.s, .int .i64 m.r, .int .i64 m.t, .slice ua L.length uc] 27)))
  clear H27
  have H37 := Lib.hid (H29.out.step (al _ (.cells #[.int .i64 m.v, .int .i64 m.c, .int .i64 m.s, .int .i64 m.r, .int .i64 m.t, .slice ua L.length uc] 27)))
  clear H29
  have H38 := Lib.hid (keep2 (al _ (.cells #[.int .i64 m.v, .int .i64 m.c, .int .i64 m.s, .int .i64 m.r, .int .i64 m.t, .slice ua L.length uc] 27)) H28.out)
  clear H28
  have xs0 := H34.out.c 0 rfl
  have xs1 := H34.out.c 1 rfl
  have xs2 := H34.out.c 2 rfl
  have xs3 := H34.out.c 3 rfl
  have xs4 := H34.out.c 4 rfl
  have xs5 := H34.out.c 5 rfl
  have zs := H34.out.2.2
  have xp0 := H35.out.c 0 rfl
  have xp1 := H35.out.c 1 rfl
  have xp2 := H35.out.c 2 rfl
  have zp := H35.out.2.2
  have xr0 := H36.out.c 0 rfl
  have xr1 := H36.out.c 1 rfl
  have xr2 := H36.out.c 2 rfl
  have xr3 := H36.out.c 3 rfl
  have xr4 := H36.out.c 4 rfl
  have xr5 := H36.out.c 5 rfl
  have zr := H36.out.2.2
  have xa0 := H30.out.c 0 rfl
  have xa1 := H30.out.c 1 rfl
  have xa2 := H30.out.c 2 rfl
  have xa3 := H30.out.c 3 rfl
  have xa4 := H30.out.c 4 rfl
  have xa5 := H30.out.c 5 rfl
  have za := H30.out.2.2
  go_wp2_with fail
  refine (slot_any m _ L _ H31.out H9.out H8.out).mono ?_
  rintro e u2 ⟨rfl, b2⟩
  clear xs0 xs1 xs2 xs3 xs4 xs5 zs xp0 xp1 xp2 zp xr0 xr1 xr2 xr3 xr4 xr5 zr xa0 xa1 xa2 xa3 xa4 xa5 za
  have H39 := Lib.hid (H31.out.step b2)
  clear H31
  have H40 := Lib.hid (H32.out.step b2)
  clear H32
  have H41 := Lib.hid (H33.out.step b2)
  clear H33
  have H42 := Lib.hid (H34.out.step b2)
  clear H34
  have H43 := Lib.hid (H35.out.step b2)
  clear H35
  have H44 := Lib.hid (H36.out.step b2)
  clear H36
  have H45 := Lib.hid (H37.out.step b2)
  clear H37
  have H46 := Lib.hid (H30.out.step b2)
  clear H30
  have H47 := Lib.hid (keep2 b2 H38.out)
  clear H38
  clear b2
  rw [HSL.out]
  have xa0 := H46.out.c 0 rfl
  have xa1 := H46.out.c 1 rfl
  have xa2 := H46.out.c 2 rfl
  have xa3 := H46.out.c 3 rfl
  have xa4 := H46.out.c 4 rfl
  have xa5 := H46.out.c 5 rfl
  have za := H46.out.2.2
  have xr0 := H44.out.c 0 rfl
  have xr1 := H44.out.c 1 rfl
  have xr2 := H44.out.c 2 rfl
  have xr3 := H44.out.c 3 rfl
  have xr4 := H44.out.c 4 rfl
  have xr5 := H44.out.c 5 rfl
  have zr := H44.out.2.2
  have fr0 := H44.out.f 0 (by simp)
  have fr1 := H44.out.f 1 (by simp)
  have fr2 := H44.out.f 2 (by simp)
  have fr3 := H44.out.f 3 (by simp)
  have fr4 := H44.out.f 4 (by simp)
  have fr5 := H44.out.f 5 (by simp)
  have HLE := Lib.hid (show w.heap.size ≤ (w.heap.size + 1 + 1) from by omega)
  have q90 := Lib.hid (Cs.set H44.out 0 (by simp) (.int .i64 m.v) (vs' := #[.int .i64 m.v, .int .i64 0, .int .i64 0, .int .i64 0, .int .i64 0, .slice none 0 0]) rfl)
  have q91 := Lib.hid (Cs.set q90.out 1 (by simp) (.int .i64 m.c) (vs' := #[.int .i64 m.v, .int .i64 m.c, .int .i64 0, .int .i64 0, .int .i64 0, .slice none 0 0]) rfl)
  have q92 := Lib.hid (Cs.set q91.out 2 (by simp) (.int .i64 m.s) (vs' := #[.int .i64 m.v, .int .i64 m.c, .int .i64 m.s, .int .i64 0, .int .i64 0, .slice none 0 0]) rfl)
  have q93 := Lib.hid (Cs.set q92.out 3 (by simp) (.int .i64 m.r) (vs' := #[.int .i64 m.v, .int .i64 m.c, .int .i64 m.s, .int .i64 m.r, .int .i64 0, .slice none 0 0]) rfl)
  have q94 := Lib.hid (Cs.set q93.out 4 (by simp) (.int .i64 m.t) (vs' := #[.int .i64 m.v, .int .i64 m.c, .int .i64 m.s, .int .i64 m.r, .int .i64 m.t, .slice none 0 0]) rfl)
  have q95 := Lib.hid (Cs.set q94.out 5 (by simp) (.slice ua L.length uc) (vs' := #[.int .i64 m.v, .int .i64 m.c, .int .i64 m.s, .int .i64 m.r, .int .i64 m.t, .slice ua L.length uc]) rfl)
  clear q90 q91 q92 q93 q94
  go_wp2
  have hC := q95.out
  have hB := ((((((H47.out.setCell (p := ⟨(w.heap.size + 1 + 1), 0, none⟩) HLE.out (.int .i64 m.v)).setCell (p := ⟨(w.heap.size + 1 + 1), 1, none⟩) HLE.out (.int .i64 m.c)).setCell (p := ⟨(w.heap.size + 1 + 1), 2, none⟩) HLE.out (.int .i64 m.s)).setCell (p := ⟨(w.heap.size + 1 + 1), 3, none⟩) HLE.out (.int .i64 m.r)).setCell (p := ⟨(w.heap.size + 1 + 1), 4, none⟩) HLE.out (.int .i64 m.t)).setCell (p := ⟨(w.heap.size + 1 + 1), 5, none⟩) HLE.out (.slice ua L.length uc))
  have hX := (OwR.set (B := (w.heap.size + 1 + 1)) (OwR.set (B := (w.heap.size + 1 + 1)) (OwR.set (B := (w.heap.size + 1 + 1)) (OwR.set (B := (w.heap.size + 1 + 1)) (OwR.set (B := (w.heap.size + 1 + 1)) (OwR.set (B := (w.heap.size + 1 + 1)) H45.out (by omega) (by omega) 0 (.int .i64 m.v)) (by omega) (by omega) 1 (.int .i64 m.c)) (by omega) (by omega) 2 (.int .i64 m.s)) (by omega) (by omega) 3 (.int .i64 m.r)) (by omega) (by omega) 4 (.int .i64 m.t)) (by omega) (by omega) 5 (.slice ua L.length uc))
  obtain ⟨V9, hV9⟩ : ∃ z9, ((((((u2.setCell ⟨(w.heap.size + 1 + 1), 0, none⟩ (.int .i64 m.v)).setCell ⟨(w.heap.size + 1 + 1), 1, none⟩ (.int .i64 m.c)).setCell ⟨(w.heap.size + 1 + 1), 2, none⟩ (.int .i64 m.s)).setCell ⟨(w.heap.size + 1 + 1), 3, none⟩ (.int .i64 m.r)).setCell ⟨(w.heap.size + 1 + 1), 4, none⟩ (.int .i64 m.t)).setCell ⟨(w.heap.size + 1 + 1), 5, none⟩ (.slice ua L.length uc)) = z9 := ⟨_, rfl⟩
  rw [hV9] at hC hB hX ⊢
  clear hV9
  have k0 : V9.cell? ⟨(w.heap.size + 1 + 1), 0, none⟩ = some (.int .i64 m.v) := hC.c 0 rfl
  have k1 : V9.cell? ⟨(w.heap.size + 1 + 1), 1, none⟩ = some (.int .i64 m.c) := hC.c 1 rfl
  have k2 : V9.cell? ⟨(w.heap.size + 1 + 1), 2, none⟩ = some (.int .i64 m.s) := hC.c 2 rfl
  have k3 : V9.cell? ⟨(w.heap.size + 1 + 1), 3, none⟩ = some (.int .i64 m.r) := hC.c 3 rfl
  have k4 : V9.cell? ⟨(w.heap.size + 1 + 1), 4, none⟩ = some (.int .i64 m.t) := hC.c 4 rfl
  have k5 : V9.cell? ⟨(w.heap.size + 1 + 1), 5, none⟩ = some (.slice ua L.length uc) := hC.c 5 rfl
  exact bodyPost_ret (v := .tuple #[.agg #[.int .i64 m.v, .int .i64 m.c, .int .i64 m.s, .int .i64 m.r, .int .i64 m.t, .slice ua L.length uc], .int .i64 1]) (by simp [results, Try.results15, go_sem, k0, k1, k2, k3, k4, k5]) rfl (⟨_, _, rfl, (show w.heap.size ≤ w.heap.size + 3 + 2 by omega), hX, hB⟩)
set_option maxRecDepth 100000 in
set_option maxHeartbeats 8000000 in
theorem add_f (m : Mf) (i : Int) (v : Value) (L : List (List Int)) (vd : Value) (d : List Int) (vp : Value) (p : List Int) (w : World) (h : RowsAt w v L) (hd : IntsAt w vd d) (hp : CapI w vp p) (h9 : L.length ≤ 1000) (h8 : ∀ x ∈ L, x.length ≤ 1000) (_ : d.length ≤ 1000) (hsl : slB m L = true) (hft : ftB m i d = false) : Calls Try.prog 15 #[.agg #[.int .i64 m.v, .int .i64 m.c, .int .i64 m.s, .int .i64 m.r, .int .i64 m.t, v], .agg #[.int .i64 (i : Int), vd, vp]] w (ChO m L 24 w) := by
  have HSL := Lib.hid hsl
  have HFT := Lib.hid hft
  have HMF := Lib.hid (sl_mf hsl)
  clear hsl hft
  obtain ⟨va, vc, rfl, -, -⟩ : ∃ (a : Option Addr) (c : Nat), v = .slice a L.length c ∧ True ∧ True := by
    obtain ⟨a, c, e, -⟩ := h
    exact ⟨a, c, e, trivial, trivial⟩
  obtain ⟨da, dc, rfl, -, -⟩ : ∃ (a : Option Addr) (c : Nat), vd = .slice a d.length c ∧ True ∧ True := by
    obtain ⟨a, c, e, -⟩ := hd
    exact ⟨a, c, e, trivial, trivial⟩
  obtain ⟨pa, pc, rfl, -⟩ : ∃ (a : Option Addr) (c : Nat), vp = .slice a p.length c ∧ True := by
    obtain ⟨-, a, c, e, -⟩ := hp
    exact ⟨a, c, e, trivial⟩
  have HLW := Lib.hid h
  have H9 := Lib.hid h9
  have H8 := Lib.hid h8
  have H0 := Lib.hid (Below.refl w.heap.size w)
  have H1 := Lib.hid (h)
  have H2 := Lib.hid (hd)
  have H3 := Lib.hid (hp)
  clear h hd hp h9 h8
  have H4 := Lib.hid (Cs.newB H0.out (w.heap.size) #[.int .i64 m.v, .int .i64 m.c, .int .i64 m.s, .int .i64 m.r, .int .i64 m.t, .slice va L.length vc] 27 (by simp))
  have H5 := Lib.hid (H1.out.step (al _ (.cells #[.int .i64 m.v, .int .i64 m.c, .int .i64 m.s, .int .i64 m.r, .int .i64 m.t, .slice va L.length vc] 27)))
  clear H1
  have H6 := Lib.hid (H2.out.step (al _ (.cells #[.int .i64 m.v, .int .i64 m.c, .int .i64 m.s, .int .i64 m.r, .int .i64 m.t, .slice va L.length vc] 27)))
  clear H2
  have H7 := Lib.hid (H3.out.step (al _ (.cells #[.int .i64 m.v, .int .i64 m.c, .int .i64 m.s, .int .i64 m.r, .int .i64 m.t, .slice va L.length vc] 27)))
  clear H3
  have H8 := Lib.hid (keep2 (al _ (.cells #[.int .i64 m.v, .int .i64 m.c, .int .i64 m.s, .int .i64 m.r, .int .i64 m.t, .slice va L.length vc] 27)) H0.out)
  clear H0
  have H9 := Lib.hid (Cs.newB H8.out (w.heap.size + 1) #[.int .i64 (i : Int), .slice da d.length dc, .slice pa p.length pc] 29 (by simp))
  have H10 := Lib.hid (H5.out.step (al _ (.cells #[.int .i64 (i : Int), .slice da d.length dc, .slice pa p.length pc] 29)))
  clear H5
  have H11 := Lib.hid (H6.out.step (al _ (.cells #[.int .i64 (i : Int), .slice da d.length dc, .slice pa p.length pc] 29)))
  clear H6
  have H12 := Lib.hid (H7.out.step (al _ (.cells #[.int .i64 (i : Int), .slice da d.length dc, .slice pa p.length pc] 29)))
  clear H7
  have H13 := Lib.hid (H4.out.step (al _ (.cells #[.int .i64 (i : Int), .slice da d.length dc, .slice pa p.length pc] 29)))
  clear H4
  have H14 := Lib.hid (keep2 (al _ (.cells #[.int .i64 (i : Int), .slice da d.length dc, .slice pa p.length pc] 29)) H8.out)
  clear H8
  have H15 := Lib.hid (Cs.newB H14.out (w.heap.size + 1 + 1) #[.int .i64 0, .int .i64 0, .int .i64 0, .int .i64 0, .int .i64 0, .slice none 0 0] 27 (by simp))
  have H16 := Lib.hid (H10.out.step (al _ (.cells #[.int .i64 0, .int .i64 0, .int .i64 0, .int .i64 0, .int .i64 0, .slice none 0 0] 27)))
  clear H10
  have H17 := Lib.hid (H11.out.step (al _ (.cells #[.int .i64 0, .int .i64 0, .int .i64 0, .int .i64 0, .int .i64 0, .slice none 0 0] 27)))
  clear H11
  have H18 := Lib.hid (H12.out.step (al _ (.cells #[.int .i64 0, .int .i64 0, .int .i64 0, .int .i64 0, .int .i64 0, .slice none 0 0] 27)))
  clear H12
  have H19 := Lib.hid (H13.out.step (al _ (.cells #[.int .i64 0, .int .i64 0, .int .i64 0, .int .i64 0, .int .i64 0, .slice none 0 0] 27)))
  clear H13
  have H20 := Lib.hid (H9.out.step (al _ (.cells #[.int .i64 0, .int .i64 0, .int .i64 0, .int .i64 0, .int .i64 0, .slice none 0 0] 27)))
  clear H9
  have H21 := Lib.hid (keep2 (al _ (.cells #[.int .i64 0, .int .i64 0, .int .i64 0, .int .i64 0, .int .i64 0, .slice none 0 0] 27)) H14.out)
  clear H14
  go_enter Try.func15, Try.ntmps15
  have xs0 := H19.out.c 0 rfl
  have xs1 := H19.out.c 1 rfl
  have xs2 := H19.out.c 2 rfl
  have xs3 := H19.out.c 3 rfl
  have xs4 := H19.out.c 4 rfl
  have xs5 := H19.out.c 5 rfl
  have zs := H19.out.2.2
  have xp0 := H20.out.c 0 rfl
  have xp1 := H20.out.c 1 rfl
  have xp2 := H20.out.c 2 rfl
  have zp := H20.out.2.2
  have xr0 := H15.out.c 0 rfl
  have xr1 := H15.out.c 1 rfl
  have xr2 := H15.out.c 2 rfl
  have xr3 := H15.out.c 3 rfl
  have xr4 := H15.out.c 4 rfl
  have xr5 := H15.out.c 5 rfl
  have zr := H15.out.2.2
  go_wp2_with fail
  refine (copied_any m _ L w _ H21.out HLW.out H9.out H8.out).mono ?_
  rintro e u1 ⟨u, rfl, hu, b1⟩
  clear xs0 xs1 xs2 xs3 xs4 xs5 zs xp0 xp1 xp2 zp xr0 xr1 xr2 xr3 xr4 xr5 zr
  have H22 := Lib.hid (H16.out.step b1)
  clear H16
  have H23 := Lib.hid (H17.out.step b1)
  clear H17
  have H24 := Lib.hid (H18.out.step b1)
  clear H18
  have H25 := Lib.hid (H19.out.step b1)
  clear H19
  have H26 := Lib.hid (H20.out.step b1)
  clear H20
  have H27 := Lib.hid (H15.out.step b1)
  clear H15
  have H28 := Lib.hid (keep2 b1 H21.out)
  clear H21
  clear b1
  rw [show (((w.alloc (.cells #[.int .i64 m.v, .int .i64 m.c, .int .i64 m.s, .int .i64 m.r, .int .i64 m.t, .slice va L.length vc] 27)).alloc (.cells #[.int .i64 (i : Int), .slice da d.length dc, .slice pa p.length pc] 29)).alloc (.cells #[.int .i64 0, .int .i64 0, .int .i64 0, .int .i64 0, .int .i64 0, .slice none 0 0] 27)).heap.size = w.heap.size + 3 by simp] at hu
  obtain ⟨ua, uc, rfl, HGA⟩ : ∃ (a : Option Addr) (c : Nat), u = .slice a L.length c ∧ Hid (∀ g, a = some ⟨g, 0, none⟩ → L ≠ [] → g < u1.heap.size) := by
    obtain ⟨a, c, e, -, q⟩ := hu
    refine ⟨a, c, e, Lib.hid fun g hg hl => ?_⟩
    obtain ⟨g2, e2, -, h3, -⟩ := q hl
    obtain rfl : g = g2 := by rw [hg] at e2; simpa using e2
    exact h3
  have H29 := Lib.hid (hu)
  clear hu
  have H30 := Lib.hid (Cs.newB H28.out (u1.heap.size) #[.int .i64 m.v, .int .i64 m.c, .int .i64 m.s, .int .i64 m.r, .int .i64 m.t, .slice ua L.length uc] 27 (by simp))
  have H31 := Lib.hid (H22.out.step (al _ (.cells #[.int .i64 m.v, .int .i64 m.c, .int .i64 m.s, .int .i64 m.r, .int .i64 m.t, .slice ua L.length uc] 27)))
  clear H22
  have H32 := Lib.hid (H23.out.step (al _ (.cells #[.int .i64 m.v, .int .i64 m.c, .int .i64 m.s, .int .i64 m.r, .int .i64 m.t, .slice ua L.length uc] 27)))
  clear H23
  have H33 := Lib.hid (H24.out.step (al _ (.cells #[.int .i64 m.v, .int .i64 m.c, .int .i64 m.s, .int .i64 m.r, .int .i64 m.t, .slice ua L.length uc] 27)))
  clear H24
  have H34 := Lib.hid (H25.out.step (al _ (.cells #[.int .i64 m.v, .int .i64 m.c, .int .i64 m.s, .int .i64 m.r, .int .i64 m.t, .slice ua L.length uc] 27)))
  clear H25
  have H35 := Lib.hid (H26.out.step (al _ (.cells #[.int .i64 m.v, .int .i64 m.c, .int .i64 m.s, .int .i64 m.r, .int .i64 m.t, .slice ua L.length uc] 27)))
  clear H26
  have H36 := Lib.hid (H27.out.step (al _ (.cells #[.int .i64 m.v, .int .i64 m.c, .int .i64 m.s, .int .i64 m.r, .int .i64 m.t, .slice ua L.length uc] 27)))
  clear H27
  have H37 := Lib.hid (H29.out.step (al _ (.cells #[.int .i64 m.v, .int .i64 m.c, .int .i64 m.s, .int .i64 m.r, .int .i64 m.t, .slice ua L.length uc] 27)))
  clear H29
  have H38 := Lib.hid (keep2 (al _ (.cells #[.int .i64 m.v, .int .i64 m.c, .int .i64 m.s, .int .i64 m.r, .int .i64 m.t, .slice ua L.length uc] 27)) H28.out)
  clear H28
  have xs0 := H34.out.c 0 rfl
  have xs1 := H34.out.c 1 rfl
  have xs2 := H34.out.c 2 rfl
  have xs3 := H34.out.c 3 rfl
  have xs4 := H34.out.c 4 rfl
  have xs5 := H34.out.c 5 rfl
  have zs := H34.out.2.2
  have xp0 := H35.out.c 0 rfl
  have xp1 := H35.out.c 1 rfl
  have xp2 := H35.out.c 2 rfl
  have zp := H35.out.2.2
  have xr0 := H36.out.c 0 rfl
  have xr1 := H36.out.c 1 rfl
  have xr2 := H36.out.c 2 rfl
  have xr3 := H36.out.c 3 rfl
  have xr4 := H36.out.c 4 rfl
  have xr5 := H36.out.c 5 rfl
  have zr := H36.out.2.2
  have xa0 := H30.out.c 0 rfl
  have xa1 := H30.out.c 1 rfl
  have xa2 := H30.out.c 2 rfl
  have xa3 := H30.out.c 3 rfl
  have xa4 := H30.out.c 4 rfl
  have xa5 := H30.out.c 5 rfl
  have za := H30.out.2.2
  go_wp2_with fail
  refine (slot_any m _ L _ H31.out H9.out H8.out).mono ?_
  rintro e u2 ⟨rfl, b2⟩
  clear xs0 xs1 xs2 xs3 xs4 xs5 zs xp0 xp1 xp2 zp xr0 xr1 xr2 xr3 xr4 xr5 zr xa0 xa1 xa2 xa3 xa4 xa5 za
  have H39 := Lib.hid (H31.out.step b2)
  clear H31
  have H40 := Lib.hid (H32.out.step b2)
  clear H32
  have H41 := Lib.hid (H33.out.step b2)
  clear H33
  have H42 := Lib.hid (H34.out.step b2)
  clear H34
  have H43 := Lib.hid (H35.out.step b2)
  clear H35
  have H44 := Lib.hid (H36.out.step b2)
  clear H36
  have H45 := Lib.hid (H37.out.step b2)
  clear H37
  have H46 := Lib.hid (H30.out.step b2)
  clear H30
  have H47 := Lib.hid (keep2 b2 H38.out)
  clear H38
  clear b2
  rw [HSL.out]
  have xs0 := H42.out.c 0 rfl
  have xs1 := H42.out.c 1 rfl
  have xs2 := H42.out.c 2 rfl
  have xs3 := H42.out.c 3 rfl
  have xs4 := H42.out.c 4 rfl
  have xs5 := H42.out.c 5 rfl
  have zs := H42.out.2.2
  have xp0 := H43.out.c 0 rfl
  have xp1 := H43.out.c 1 rfl
  have xp2 := H43.out.c 2 rfl
  have zp := H43.out.2.2
  have xa0 := H46.out.c 0 rfl
  have xa1 := H46.out.c 1 rfl
  have xa2 := H46.out.c 2 rfl
  have xa3 := H46.out.c 3 rfl
  have xa4 := H46.out.c 4 rfl
  have xa5 := H46.out.c 5 rfl
  have za := H46.out.2.2
  go_wp2_with fail
  refine (fit_any m _ _ d _ H40.out HMF.out).mono ?_
  rintro e u3 ⟨rfl, b3⟩
  clear xs0 xs1 xs2 xs3 xs4 xs5 zs xp0 xp1 xp2 zp xa0 xa1 xa2 xa3 xa4 xa5 za
  have H48 := Lib.hid (H39.out.step b3)
  clear H39
  have H49 := Lib.hid (H40.out.step b3)
  clear H40
  have H50 := Lib.hid (H41.out.step b3)
  clear H41
  have H51 := Lib.hid (H42.out.step b3)
  clear H42
  have H52 := Lib.hid (H43.out.step b3)
  clear H43
  have H53 := Lib.hid (H44.out.step b3)
  clear H44
  have H54 := Lib.hid (H45.out.step b3)
  clear H45
  have H55 := Lib.hid (H46.out.step b3)
  clear H46
  have H56 := Lib.hid (keep2 b3 H47.out)
  clear H47
  clear b3
  rw [HFT.out]
  have xa0 := H55.out.c 0 rfl
  have xa1 := H55.out.c 1 rfl
  have xa2 := H55.out.c 2 rfl
  have xa3 := H55.out.c 3 rfl
  have xa4 := H55.out.c 4 rfl
  have xa5 := H55.out.c 5 rfl
  have za := H55.out.2.2
  have xr0 := H53.out.c 0 rfl
  have xr1 := H53.out.c 1 rfl
  have xr2 := H53.out.c 2 rfl
  have xr3 := H53.out.c 3 rfl
  have xr4 := H53.out.c 4 rfl
  have xr5 := H53.out.c 5 rfl
  have zr := H53.out.2.2
  have fr0 := H53.out.f 0 (by simp)
  have fr1 := H53.out.f 1 (by simp)
  have fr2 := H53.out.f 2 (by simp)
  have fr3 := H53.out.f 3 (by simp)
  have fr4 := H53.out.f 4 (by simp)
  have fr5 := H53.out.f 5 (by simp)
  have HLE := Lib.hid (show w.heap.size ≤ (w.heap.size + 1 + 1) from by omega)
  have q90 := Lib.hid (Cs.set H53.out 0 (by simp) (.int .i64 m.v) (vs' := #[.int .i64 m.v, .int .i64 0, .int .i64 0, .int .i64 0, .int .i64 0, .slice none 0 0]) rfl)
  have q91 := Lib.hid (Cs.set q90.out 1 (by simp) (.int .i64 m.c) (vs' := #[.int .i64 m.v, .int .i64 m.c, .int .i64 0, .int .i64 0, .int .i64 0, .slice none 0 0]) rfl)
  have q92 := Lib.hid (Cs.set q91.out 2 (by simp) (.int .i64 m.s) (vs' := #[.int .i64 m.v, .int .i64 m.c, .int .i64 m.s, .int .i64 0, .int .i64 0, .slice none 0 0]) rfl)
  have q93 := Lib.hid (Cs.set q92.out 3 (by simp) (.int .i64 m.r) (vs' := #[.int .i64 m.v, .int .i64 m.c, .int .i64 m.s, .int .i64 m.r, .int .i64 0, .slice none 0 0]) rfl)
  have q94 := Lib.hid (Cs.set q93.out 4 (by simp) (.int .i64 m.t) (vs' := #[.int .i64 m.v, .int .i64 m.c, .int .i64 m.s, .int .i64 m.r, .int .i64 m.t, .slice none 0 0]) rfl)
  have q95 := Lib.hid (Cs.set q94.out 5 (by simp) (.slice ua L.length uc) (vs' := #[.int .i64 m.v, .int .i64 m.c, .int .i64 m.s, .int .i64 m.r, .int .i64 m.t, .slice ua L.length uc]) rfl)
  clear q90 q91 q92 q93 q94
  go_wp2
  have hC := q95.out
  have hB := ((((((H56.out.setCell (p := ⟨(w.heap.size + 1 + 1), 0, none⟩) HLE.out (.int .i64 m.v)).setCell (p := ⟨(w.heap.size + 1 + 1), 1, none⟩) HLE.out (.int .i64 m.c)).setCell (p := ⟨(w.heap.size + 1 + 1), 2, none⟩) HLE.out (.int .i64 m.s)).setCell (p := ⟨(w.heap.size + 1 + 1), 3, none⟩) HLE.out (.int .i64 m.r)).setCell (p := ⟨(w.heap.size + 1 + 1), 4, none⟩) HLE.out (.int .i64 m.t)).setCell (p := ⟨(w.heap.size + 1 + 1), 5, none⟩) HLE.out (.slice ua L.length uc))
  have hX := (OwR.set (B := (w.heap.size + 1 + 1)) (OwR.set (B := (w.heap.size + 1 + 1)) (OwR.set (B := (w.heap.size + 1 + 1)) (OwR.set (B := (w.heap.size + 1 + 1)) (OwR.set (B := (w.heap.size + 1 + 1)) (OwR.set (B := (w.heap.size + 1 + 1)) H54.out (by omega) (by omega) 0 (.int .i64 m.v)) (by omega) (by omega) 1 (.int .i64 m.c)) (by omega) (by omega) 2 (.int .i64 m.s)) (by omega) (by omega) 3 (.int .i64 m.r)) (by omega) (by omega) 4 (.int .i64 m.t)) (by omega) (by omega) 5 (.slice ua L.length uc))
  obtain ⟨V9, hV9⟩ : ∃ z9, ((((((u3.setCell ⟨(w.heap.size + 1 + 1), 0, none⟩ (.int .i64 m.v)).setCell ⟨(w.heap.size + 1 + 1), 1, none⟩ (.int .i64 m.c)).setCell ⟨(w.heap.size + 1 + 1), 2, none⟩ (.int .i64 m.s)).setCell ⟨(w.heap.size + 1 + 1), 3, none⟩ (.int .i64 m.r)).setCell ⟨(w.heap.size + 1 + 1), 4, none⟩ (.int .i64 m.t)).setCell ⟨(w.heap.size + 1 + 1), 5, none⟩ (.slice ua L.length uc)) = z9 := ⟨_, rfl⟩
  rw [hV9] at hC hB hX ⊢
  clear hV9
  have k0 : V9.cell? ⟨(w.heap.size + 1 + 1), 0, none⟩ = some (.int .i64 m.v) := hC.c 0 rfl
  have k1 : V9.cell? ⟨(w.heap.size + 1 + 1), 1, none⟩ = some (.int .i64 m.c) := hC.c 1 rfl
  have k2 : V9.cell? ⟨(w.heap.size + 1 + 1), 2, none⟩ = some (.int .i64 m.s) := hC.c 2 rfl
  have k3 : V9.cell? ⟨(w.heap.size + 1 + 1), 3, none⟩ = some (.int .i64 m.r) := hC.c 3 rfl
  have k4 : V9.cell? ⟨(w.heap.size + 1 + 1), 4, none⟩ = some (.int .i64 m.t) := hC.c 4 rfl
  have k5 : V9.cell? ⟨(w.heap.size + 1 + 1), 5, none⟩ = some (.slice ua L.length uc) := hC.c 5 rfl
  exact bodyPost_ret (v := .tuple #[.agg #[.int .i64 m.v, .int .i64 m.c, .int .i64 m.s, .int .i64 m.r, .int .i64 m.t, .slice ua L.length uc], .int .i64 24]) (by simp [results, Try.results15, go_sem, k0, k1, k2, k3, k4, k5]) rfl (⟨_, _, rfl, (show w.heap.size ≤ w.heap.size + 3 + 2 by omega), hX, hB⟩)
set_option maxRecDepth 100000 in
set_option maxHeartbeats 8000000 in
theorem add_p (m : Mf) (i : Nat) (v : Value) (L : List (List Int)) (vd : Value) (d : List Int) (vp : Value) (p : List Int) (w : World) (h : RowsAt w v L) (hd : IntsAt w vd d) (hp : CapI w vp p) (h9 : L.length ≤ 1000) (h8 : ∀ x ∈ L, x.length ≤ 1000) (hd9 : d.length ≤ 1000) (hsl : slB m L = true) (hft : ftB m i d = true) (hil : i < L.length) (hpr : prB m i L.length d p = false) : Calls Try.prog 15 #[.agg #[.int .i64 m.v, .int .i64 m.c, .int .i64 m.s, .int .i64 m.r, .int .i64 m.t, v], .agg #[.int .i64 (i : Int), vd, vp]] w (ChO m L 17 w) := by
  have HSL := Lib.hid hsl
  have HFT := Lib.hid hft
  have HMF := Lib.hid (sl_mf hsl)
  have HMC := Lib.hid (sl_len hsl)
  have HPR := Lib.hid hpr
  have HIL := Lib.hid hil
  have HI9 := Lib.hid (show i ≤ 64 by have := (mfB_parts (sl_mf hsl)).2.1; have := sl_len hsl; omega)
  have HD9 := Lib.hid (show d.length ≤ 100000 by omega)
  clear hsl hd9 hft hil hpr
  obtain ⟨va, vc, rfl, -, -⟩ : ∃ (a : Option Addr) (c : Nat), v = .slice a L.length c ∧ True ∧ True := by
    obtain ⟨a, c, e, -⟩ := h
    exact ⟨a, c, e, trivial, trivial⟩
  obtain ⟨da, dc, rfl, -, -⟩ : ∃ (a : Option Addr) (c : Nat), vd = .slice a d.length c ∧ True ∧ True := by
    obtain ⟨a, c, e, -⟩ := hd
    exact ⟨a, c, e, trivial, trivial⟩
  obtain ⟨pa, pc, rfl, -⟩ : ∃ (a : Option Addr) (c : Nat), vp = .slice a p.length c ∧ True := by
    obtain ⟨-, a, c, e, -⟩ := hp
    exact ⟨a, c, e, trivial⟩
  have HLW := Lib.hid h
  have H9 := Lib.hid h9
  have H8 := Lib.hid h8
  have H0 := Lib.hid (Below.refl w.heap.size w)
  have H1 := Lib.hid (h)
  have H2 := Lib.hid (hd)
  have H3 := Lib.hid (hp)
  clear h hd hp h9 h8
  have H4 := Lib.hid (Cs.newB H0.out (w.heap.size) #[.int .i64 m.v, .int .i64 m.c, .int .i64 m.s, .int .i64 m.r, .int .i64 m.t, .slice va L.length vc] 27 (by simp))
  have H5 := Lib.hid (H1.out.step (al _ (.cells #[.int .i64 m.v, .int .i64 m.c, .int .i64 m.s, .int .i64 m.r, .int .i64 m.t, .slice va L.length vc] 27)))
  clear H1
  have H6 := Lib.hid (H2.out.step (al _ (.cells #[.int .i64 m.v, .int .i64 m.c, .int .i64 m.s, .int .i64 m.r, .int .i64 m.t, .slice va L.length vc] 27)))
  clear H2
  have H7 := Lib.hid (H3.out.step (al _ (.cells #[.int .i64 m.v, .int .i64 m.c, .int .i64 m.s, .int .i64 m.r, .int .i64 m.t, .slice va L.length vc] 27)))
  clear H3
  have H8 := Lib.hid (keep2 (al _ (.cells #[.int .i64 m.v, .int .i64 m.c, .int .i64 m.s, .int .i64 m.r, .int .i64 m.t, .slice va L.length vc] 27)) H0.out)
  clear H0
  have H9 := Lib.hid (Cs.newB H8.out (w.heap.size + 1) #[.int .i64 (i : Int), .slice da d.length dc, .slice pa p.length pc] 29 (by simp))
  have H10 := Lib.hid (H5.out.step (al _ (.cells #[.int .i64 (i : Int), .slice da d.length dc, .slice pa p.length pc] 29)))
  clear H5
  have H11 := Lib.hid (H6.out.step (al _ (.cells #[.int .i64 (i : Int), .slice da d.length dc, .slice pa p.length pc] 29)))
  clear H6
  have H12 := Lib.hid (H7.out.step (al _ (.cells #[.int .i64 (i : Int), .slice da d.length dc, .slice pa p.length pc] 29)))
  clear H7
  have H13 := Lib.hid (H4.out.step (al _ (.cells #[.int .i64 (i : Int), .slice da d.length dc, .slice pa p.length pc] 29)))
  clear H4
  have H14 := Lib.hid (keep2 (al _ (.cells #[.int .i64 (i : Int), .slice da d.length dc, .slice pa p.length pc] 29)) H8.out)
  clear H8
  have H15 := Lib.hid (Cs.newB H14.out (w.heap.size + 1 + 1) #[.int .i64 0, .int .i64 0, .int .i64 0, .int .i64 0, .int .i64 0, .slice none 0 0] 27 (by simp))
  have H16 := Lib.hid (H10.out.step (al _ (.cells #[.int .i64 0, .int .i64 0, .int .i64 0, .int .i64 0, .int .i64 0, .slice none 0 0] 27)))
  clear H10
  have H17 := Lib.hid (H11.out.step (al _ (.cells #[.int .i64 0, .int .i64 0, .int .i64 0, .int .i64 0, .int .i64 0, .slice none 0 0] 27)))
  clear H11
  have H18 := Lib.hid (H12.out.step (al _ (.cells #[.int .i64 0, .int .i64 0, .int .i64 0, .int .i64 0, .int .i64 0, .slice none 0 0] 27)))
  clear H12
  have H19 := Lib.hid (H13.out.step (al _ (.cells #[.int .i64 0, .int .i64 0, .int .i64 0, .int .i64 0, .int .i64 0, .slice none 0 0] 27)))
  clear H13
  have H20 := Lib.hid (H9.out.step (al _ (.cells #[.int .i64 0, .int .i64 0, .int .i64 0, .int .i64 0, .int .i64 0, .slice none 0 0] 27)))
  clear H9
  have H21 := Lib.hid (keep2 (al _ (.cells #[.int .i64 0, .int .i64 0, .int .i64 0, .int .i64 0, .int .i64 0, .slice none 0 0] 27)) H14.out)
  clear H14
  go_enter Try.func15, Try.ntmps15
  have xs0 := H19.out.c 0 rfl
  have xs1 := H19.out.c 1 rfl
  have xs2 := H19.out.c 2 rfl
  have xs3 := H19.out.c 3 rfl
  have xs4 := H19.out.c 4 rfl
  have xs5 := H19.out.c 5 rfl
  have zs := H19.out.2.2
  have xp0 := H20.out.c 0 rfl
  have xp1 := H20.out.c 1 rfl
  have xp2 := H20.out.c 2 rfl
  have zp := H20.out.2.2
  have xr0 := H15.out.c 0 rfl
  have xr1 := H15.out.c 1 rfl
  have xr2 := H15.out.c 2 rfl
  have xr3 := H15.out.c 3 rfl
  have xr4 := H15.out.c 4 rfl
  have xr5 := H15.out.c 5 rfl
  have zr := H15.out.2.2
  go_wp2_with fail
  refine (copied_any m _ L w _ H21.out HLW.out H9.out H8.out).mono ?_
  rintro e u1 ⟨u, rfl, hu, b1⟩
  clear xs0 xs1 xs2 xs3 xs4 xs5 zs xp0 xp1 xp2 zp xr0 xr1 xr2 xr3 xr4 xr5 zr
  have H22 := Lib.hid (H16.out.step b1)
  clear H16
  have H23 := Lib.hid (H17.out.step b1)
  clear H17
  have H24 := Lib.hid (H18.out.step b1)
  clear H18
  have H25 := Lib.hid (H19.out.step b1)
  clear H19
  have H26 := Lib.hid (H20.out.step b1)
  clear H20
  have H27 := Lib.hid (H15.out.step b1)
  clear H15
  have H28 := Lib.hid (keep2 b1 H21.out)
  clear H21
  clear b1
  rw [show (((w.alloc (.cells #[.int .i64 m.v, .int .i64 m.c, .int .i64 m.s, .int .i64 m.r, .int .i64 m.t, .slice va L.length vc] 27)).alloc (.cells #[.int .i64 (i : Int), .slice da d.length dc, .slice pa p.length pc] 29)).alloc (.cells #[.int .i64 0, .int .i64 0, .int .i64 0, .int .i64 0, .int .i64 0, .slice none 0 0] 27)).heap.size = w.heap.size + 3 by simp] at hu
  obtain ⟨ua, uc, rfl, HGA⟩ : ∃ (a : Option Addr) (c : Nat), u = .slice a L.length c ∧ Hid (∀ g, a = some ⟨g, 0, none⟩ → L ≠ [] → g < u1.heap.size) := by
    obtain ⟨a, c, e, -, q⟩ := hu
    refine ⟨a, c, e, Lib.hid fun g hg hl => ?_⟩
    obtain ⟨g2, e2, -, h3, -⟩ := q hl
    obtain rfl : g = g2 := by rw [hg] at e2; simpa using e2
    exact h3
  have H29 := Lib.hid (hu)
  clear hu
  have H30 := Lib.hid (Cs.newB H28.out (u1.heap.size) #[.int .i64 m.v, .int .i64 m.c, .int .i64 m.s, .int .i64 m.r, .int .i64 m.t, .slice ua L.length uc] 27 (by simp))
  have H31 := Lib.hid (H22.out.step (al _ (.cells #[.int .i64 m.v, .int .i64 m.c, .int .i64 m.s, .int .i64 m.r, .int .i64 m.t, .slice ua L.length uc] 27)))
  clear H22
  have H32 := Lib.hid (H23.out.step (al _ (.cells #[.int .i64 m.v, .int .i64 m.c, .int .i64 m.s, .int .i64 m.r, .int .i64 m.t, .slice ua L.length uc] 27)))
  clear H23
  have H33 := Lib.hid (H24.out.step (al _ (.cells #[.int .i64 m.v, .int .i64 m.c, .int .i64 m.s, .int .i64 m.r, .int .i64 m.t, .slice ua L.length uc] 27)))
  clear H24
  have H34 := Lib.hid (H25.out.step (al _ (.cells #[.int .i64 m.v, .int .i64 m.c, .int .i64 m.s, .int .i64 m.r, .int .i64 m.t, .slice ua L.length uc] 27)))
  clear H25
  have H35 := Lib.hid (H26.out.step (al _ (.cells #[.int .i64 m.v, .int .i64 m.c, .int .i64 m.s, .int .i64 m.r, .int .i64 m.t, .slice ua L.length uc] 27)))
  clear H26
  have H36 := Lib.hid (H27.out.step (al _ (.cells #[.int .i64 m.v, .int .i64 m.c, .int .i64 m.s, .int .i64 m.r, .int .i64 m.t, .slice ua L.length uc] 27)))
  clear H27
  have H37 := Lib.hid (H29.out.step (al _ (.cells #[.int .i64 m.v, .int .i64 m.c, .int .i64 m.s, .int .i64 m.r, .int .i64 m.t, .slice ua L.length uc] 27)))
  clear H29
  have H38 := Lib.hid (keep2 (al _ (.cells #[.int .i64 m.v, .int .i64 m.c, .int .i64 m.s, .int .i64 m.r, .int .i64 m.t, .slice ua L.length uc] 27)) H28.out)
  clear H28
  have xs0 := H34.out.c 0 rfl
  have xs1 := H34.out.c 1 rfl
  have xs2 := H34.out.c 2 rfl
  have xs3 := H34.out.c 3 rfl
  have xs4 := H34.out.c 4 rfl
  have xs5 := H34.out.c 5 rfl
  have zs := H34.out.2.2
  have xp0 := H35.out.c 0 rfl
  have xp1 := H35.out.c 1 rfl
  have xp2 := H35.out.c 2 rfl
  have zp := H35.out.2.2
  have xr0 := H36.out.c 0 rfl
  have xr1 := H36.out.c 1 rfl
  have xr2 := H36.out.c 2 rfl
  have xr3 := H36.out.c 3 rfl
  have xr4 := H36.out.c 4 rfl
  have xr5 := H36.out.c 5 rfl
  have zr := H36.out.2.2
  have xa0 := H30.out.c 0 rfl
  have xa1 := H30.out.c 1 rfl
  have xa2 := H30.out.c 2 rfl
  have xa3 := H30.out.c 3 rfl
  have xa4 := H30.out.c 4 rfl
  have xa5 := H30.out.c 5 rfl
  have za := H30.out.2.2
  go_wp2_with fail
  refine (slot_any m _ L _ H31.out H9.out H8.out).mono ?_
  rintro e u2 ⟨rfl, b2⟩
  clear xs0 xs1 xs2 xs3 xs4 xs5 zs xp0 xp1 xp2 zp xr0 xr1 xr2 xr3 xr4 xr5 zr xa0 xa1 xa2 xa3 xa4 xa5 za
  have H39 := Lib.hid (H31.out.step b2)
  clear H31
  have H40 := Lib.hid (H32.out.step b2)
  clear H32
  have H41 := Lib.hid (H33.out.step b2)
  clear H33
  have H42 := Lib.hid (H34.out.step b2)
  clear H34
  have H43 := Lib.hid (H35.out.step b2)
  clear H35
  have H44 := Lib.hid (H36.out.step b2)
  clear H36
  have H45 := Lib.hid (H37.out.step b2)
  clear H37
  have H46 := Lib.hid (H30.out.step b2)
  clear H30
  have H47 := Lib.hid (keep2 b2 H38.out)
  clear H38
  clear b2
  rw [HSL.out]
  have xs0 := H42.out.c 0 rfl
  have xs1 := H42.out.c 1 rfl
  have xs2 := H42.out.c 2 rfl
  have xs3 := H42.out.c 3 rfl
  have xs4 := H42.out.c 4 rfl
  have xs5 := H42.out.c 5 rfl
  have zs := H42.out.2.2
  have xp0 := H43.out.c 0 rfl
  have xp1 := H43.out.c 1 rfl
  have xp2 := H43.out.c 2 rfl
  have zp := H43.out.2.2
  have xa0 := H46.out.c 0 rfl
  have xa1 := H46.out.c 1 rfl
  have xa2 := H46.out.c 2 rfl
  have xa3 := H46.out.c 3 rfl
  have xa4 := H46.out.c 4 rfl
  have xa5 := H46.out.c 5 rfl
  have za := H46.out.2.2
  go_wp2_with fail
  refine (fit_any m _ _ d _ H40.out HMF.out).mono ?_
  rintro e u3 ⟨rfl, b3⟩
  clear xs0 xs1 xs2 xs3 xs4 xs5 zs xp0 xp1 xp2 zp xa0 xa1 xa2 xa3 xa4 xa5 za
  have H48 := Lib.hid (H39.out.step b3)
  clear H39
  have H49 := Lib.hid (H40.out.step b3)
  clear H40
  have H50 := Lib.hid (H41.out.step b3)
  clear H41
  have H51 := Lib.hid (H42.out.step b3)
  clear H42
  have H52 := Lib.hid (H43.out.step b3)
  clear H43
  have H53 := Lib.hid (H44.out.step b3)
  clear H44
  have H54 := Lib.hid (H45.out.step b3)
  clear H45
  have H55 := Lib.hid (H46.out.step b3)
  clear H46
  have H56 := Lib.hid (keep2 b3 H47.out)
  clear H47
  clear b3
  rw [HFT.out]
  have xs0 := H51.out.c 0 rfl
  have xs1 := H51.out.c 1 rfl
  have xs2 := H51.out.c 2 rfl
  have xs3 := H51.out.c 3 rfl
  have xs4 := H51.out.c 4 rfl
  have xs5 := H51.out.c 5 rfl
  have zs := H51.out.2.2
  have xp0 := H52.out.c 0 rfl
  have xp1 := H52.out.c 1 rfl
  have xp2 := H52.out.c 2 rfl
  have zp := H52.out.2.2
  have xa0 := H55.out.c 0 rfl
  have xa1 := H55.out.c 1 rfl
  have xa2 := H55.out.c 2 rfl
  have xa3 := H55.out.c 3 rfl
  have xa4 := H55.out.c 4 rfl
  have xa5 := H55.out.c 5 rfl
  have za := H55.out.2.2
  go_wp2_with fail
  refine (proved_any m i L.length _ d _ p _ H49.out H50.out HMF.out HMC.out HI9.out HD9.out).mono ?_
  rintro e u4 ⟨rfl, b4⟩
  clear xs0 xs1 xs2 xs3 xs4 xs5 zs xp0 xp1 xp2 zp xa0 xa1 xa2 xa3 xa4 xa5 za
  have H57 := Lib.hid (H48.out.step b4)
  clear H48
  have H58 := Lib.hid (H49.out.step b4)
  clear H49
  have H59 := Lib.hid (H50.out.step b4)
  clear H50
  have H60 := Lib.hid (H51.out.step b4)
  clear H51
  have H61 := Lib.hid (H52.out.step b4)
  clear H52
  have H62 := Lib.hid (H53.out.step b4)
  clear H53
  have H63 := Lib.hid (H54.out.step b4)
  clear H54
  have H64 := Lib.hid (H55.out.step b4)
  clear H55
  have H65 := Lib.hid (keep2 b4 H56.out)
  clear H56
  clear b4
  rw [HPR.out]
  have xa0 := H64.out.c 0 rfl
  have xa1 := H64.out.c 1 rfl
  have xa2 := H64.out.c 2 rfl
  have xa3 := H64.out.c 3 rfl
  have xa4 := H64.out.c 4 rfl
  have xa5 := H64.out.c 5 rfl
  have za := H64.out.2.2
  have xr0 := H62.out.c 0 rfl
  have xr1 := H62.out.c 1 rfl
  have xr2 := H62.out.c 2 rfl
  have xr3 := H62.out.c 3 rfl
  have xr4 := H62.out.c 4 rfl
  have xr5 := H62.out.c 5 rfl
  have zr := H62.out.2.2
  have fr0 := H62.out.f 0 (by simp)
  have fr1 := H62.out.f 1 (by simp)
  have fr2 := H62.out.f 2 (by simp)
  have fr3 := H62.out.f 3 (by simp)
  have fr4 := H62.out.f 4 (by simp)
  have fr5 := H62.out.f 5 (by simp)
  have HLE := Lib.hid (show w.heap.size ≤ (w.heap.size + 1 + 1) from by omega)
  have q90 := Lib.hid (Cs.set H62.out 0 (by simp) (.int .i64 m.v) (vs' := #[.int .i64 m.v, .int .i64 0, .int .i64 0, .int .i64 0, .int .i64 0, .slice none 0 0]) rfl)
  have q91 := Lib.hid (Cs.set q90.out 1 (by simp) (.int .i64 m.c) (vs' := #[.int .i64 m.v, .int .i64 m.c, .int .i64 0, .int .i64 0, .int .i64 0, .slice none 0 0]) rfl)
  have q92 := Lib.hid (Cs.set q91.out 2 (by simp) (.int .i64 m.s) (vs' := #[.int .i64 m.v, .int .i64 m.c, .int .i64 m.s, .int .i64 0, .int .i64 0, .slice none 0 0]) rfl)
  have q93 := Lib.hid (Cs.set q92.out 3 (by simp) (.int .i64 m.r) (vs' := #[.int .i64 m.v, .int .i64 m.c, .int .i64 m.s, .int .i64 m.r, .int .i64 0, .slice none 0 0]) rfl)
  have q94 := Lib.hid (Cs.set q93.out 4 (by simp) (.int .i64 m.t) (vs' := #[.int .i64 m.v, .int .i64 m.c, .int .i64 m.s, .int .i64 m.r, .int .i64 m.t, .slice none 0 0]) rfl)
  have q95 := Lib.hid (Cs.set q94.out 5 (by simp) (.slice ua L.length uc) (vs' := #[.int .i64 m.v, .int .i64 m.c, .int .i64 m.s, .int .i64 m.r, .int .i64 m.t, .slice ua L.length uc]) rfl)
  clear q90 q91 q92 q93 q94
  go_wp2
  have hC := q95.out
  have hB := ((((((H65.out.setCell (p := ⟨(w.heap.size + 1 + 1), 0, none⟩) HLE.out (.int .i64 m.v)).setCell (p := ⟨(w.heap.size + 1 + 1), 1, none⟩) HLE.out (.int .i64 m.c)).setCell (p := ⟨(w.heap.size + 1 + 1), 2, none⟩) HLE.out (.int .i64 m.s)).setCell (p := ⟨(w.heap.size + 1 + 1), 3, none⟩) HLE.out (.int .i64 m.r)).setCell (p := ⟨(w.heap.size + 1 + 1), 4, none⟩) HLE.out (.int .i64 m.t)).setCell (p := ⟨(w.heap.size + 1 + 1), 5, none⟩) HLE.out (.slice ua L.length uc))
  have hX := (OwR.set (B := (w.heap.size + 1 + 1)) (OwR.set (B := (w.heap.size + 1 + 1)) (OwR.set (B := (w.heap.size + 1 + 1)) (OwR.set (B := (w.heap.size + 1 + 1)) (OwR.set (B := (w.heap.size + 1 + 1)) (OwR.set (B := (w.heap.size + 1 + 1)) H63.out (by omega) (by omega) 0 (.int .i64 m.v)) (by omega) (by omega) 1 (.int .i64 m.c)) (by omega) (by omega) 2 (.int .i64 m.s)) (by omega) (by omega) 3 (.int .i64 m.r)) (by omega) (by omega) 4 (.int .i64 m.t)) (by omega) (by omega) 5 (.slice ua L.length uc))
  obtain ⟨V9, hV9⟩ : ∃ z9, ((((((u4.setCell ⟨(w.heap.size + 1 + 1), 0, none⟩ (.int .i64 m.v)).setCell ⟨(w.heap.size + 1 + 1), 1, none⟩ (.int .i64 m.c)).setCell ⟨(w.heap.size + 1 + 1), 2, none⟩ (.int .i64 m.s)).setCell ⟨(w.heap.size + 1 + 1), 3, none⟩ (.int .i64 m.r)).setCell ⟨(w.heap.size + 1 + 1), 4, none⟩ (.int .i64 m.t)).setCell ⟨(w.heap.size + 1 + 1), 5, none⟩ (.slice ua L.length uc)) = z9 := ⟨_, rfl⟩
  rw [hV9] at hC hB hX ⊢
  clear hV9
  have k0 : V9.cell? ⟨(w.heap.size + 1 + 1), 0, none⟩ = some (.int .i64 m.v) := hC.c 0 rfl
  have k1 : V9.cell? ⟨(w.heap.size + 1 + 1), 1, none⟩ = some (.int .i64 m.c) := hC.c 1 rfl
  have k2 : V9.cell? ⟨(w.heap.size + 1 + 1), 2, none⟩ = some (.int .i64 m.s) := hC.c 2 rfl
  have k3 : V9.cell? ⟨(w.heap.size + 1 + 1), 3, none⟩ = some (.int .i64 m.r) := hC.c 3 rfl
  have k4 : V9.cell? ⟨(w.heap.size + 1 + 1), 4, none⟩ = some (.int .i64 m.t) := hC.c 4 rfl
  have k5 : V9.cell? ⟨(w.heap.size + 1 + 1), 5, none⟩ = some (.slice ua L.length uc) := hC.c 5 rfl
  exact bodyPost_ret (v := .tuple #[.agg #[.int .i64 m.v, .int .i64 m.c, .int .i64 m.s, .int .i64 m.r, .int .i64 m.t, .slice ua L.length uc], .int .i64 17]) (by simp [results, Try.results15, go_sem, k0, k1, k2, k3, k4, k5]) rfl (⟨_, _, rfl, (show w.heap.size ≤ w.heap.size + 3 + 2 by omega), hX, hB⟩)
set_option maxRecDepth 100000 in
set_option maxHeartbeats 8000000 in
theorem add_n (m : Mf) (i : Nat) (v : Value) (L : List (List Int)) (vd : Value) (d : List Int) (vp : Value) (p : List Int) (w : World) (h : RowsAt w v L) (hd : IntsAt w vd d) (hp : CapI w vp p) (h9 : L.length ≤ 1000) (h8 : ∀ x ∈ L, x.length ≤ 1000) (hd9 : d.length ≤ 1000) (hsl : slB m L = true) (hft : ftB m i d = true) (hil : i < L.length) (hpr : prB m i L.length d p = true) : Calls Try.prog 15 #[.agg #[.int .i64 m.v, .int .i64 m.c, .int .i64 m.s, .int .i64 m.r, .int .i64 m.t, v], .agg #[.int .i64 (i : Int), vd, vp]] w (ChO m (L.set i d) 0 w) := by
  have HSL := Lib.hid hsl
  have HFT := Lib.hid hft
  have HMF := Lib.hid (sl_mf hsl)
  have HMC := Lib.hid (sl_len hsl)
  have HPR := Lib.hid hpr
  have HIL := Lib.hid hil
  have HI9 := Lib.hid (show i ≤ 64 by have := (mfB_parts (sl_mf hsl)).2.1; have := sl_len hsl; omega)
  have HD9 := Lib.hid (show d.length ≤ 100000 by omega)
  clear hsl hd9 hft hil hpr
  obtain ⟨va, vc, rfl, -, -⟩ : ∃ (a : Option Addr) (c : Nat), v = .slice a L.length c ∧ True ∧ True := by
    obtain ⟨a, c, e, -⟩ := h
    exact ⟨a, c, e, trivial, trivial⟩
  obtain ⟨da, dc, rfl, -, -⟩ : ∃ (a : Option Addr) (c : Nat), vd = .slice a d.length c ∧ True ∧ True := by
    obtain ⟨a, c, e, -⟩ := hd
    exact ⟨a, c, e, trivial, trivial⟩
  obtain ⟨pa, pc, rfl, -⟩ : ∃ (a : Option Addr) (c : Nat), vp = .slice a p.length c ∧ True := by
    obtain ⟨-, a, c, e, -⟩ := hp
    exact ⟨a, c, e, trivial⟩
  have HLW := Lib.hid h
  have H9 := Lib.hid h9
  have H8 := Lib.hid h8
  have H0 := Lib.hid (Below.refl w.heap.size w)
  have H1 := Lib.hid (h)
  have H2 := Lib.hid (hd)
  have H3 := Lib.hid (hp)
  clear h hd hp h9 h8
  have H4 := Lib.hid (Cs.newB H0.out (w.heap.size) #[.int .i64 m.v, .int .i64 m.c, .int .i64 m.s, .int .i64 m.r, .int .i64 m.t, .slice va L.length vc] 27 (by simp))
  have H5 := Lib.hid (H1.out.step (al _ (.cells #[.int .i64 m.v, .int .i64 m.c, .int .i64 m.s, .int .i64 m.r, .int .i64 m.t, .slice va L.length vc] 27)))
  clear H1
  have H6 := Lib.hid (H2.out.step (al _ (.cells #[.int .i64 m.v, .int .i64 m.c, .int .i64 m.s, .int .i64 m.r, .int .i64 m.t, .slice va L.length vc] 27)))
  clear H2
  have H7 := Lib.hid (H3.out.step (al _ (.cells #[.int .i64 m.v, .int .i64 m.c, .int .i64 m.s, .int .i64 m.r, .int .i64 m.t, .slice va L.length vc] 27)))
  clear H3
  have H8 := Lib.hid (keep2 (al _ (.cells #[.int .i64 m.v, .int .i64 m.c, .int .i64 m.s, .int .i64 m.r, .int .i64 m.t, .slice va L.length vc] 27)) H0.out)
  clear H0
  have H9 := Lib.hid (Cs.newB H8.out (w.heap.size + 1) #[.int .i64 (i : Int), .slice da d.length dc, .slice pa p.length pc] 29 (by simp))
  have H10 := Lib.hid (H5.out.step (al _ (.cells #[.int .i64 (i : Int), .slice da d.length dc, .slice pa p.length pc] 29)))
  clear H5
  have H11 := Lib.hid (H6.out.step (al _ (.cells #[.int .i64 (i : Int), .slice da d.length dc, .slice pa p.length pc] 29)))
  clear H6
  have H12 := Lib.hid (H7.out.step (al _ (.cells #[.int .i64 (i : Int), .slice da d.length dc, .slice pa p.length pc] 29)))
  clear H7
  have H13 := Lib.hid (H4.out.step (al _ (.cells #[.int .i64 (i : Int), .slice da d.length dc, .slice pa p.length pc] 29)))
  clear H4
  have H14 := Lib.hid (keep2 (al _ (.cells #[.int .i64 (i : Int), .slice da d.length dc, .slice pa p.length pc] 29)) H8.out)
  clear H8
  have H15 := Lib.hid (Cs.newB H14.out (w.heap.size + 1 + 1) #[.int .i64 0, .int .i64 0, .int .i64 0, .int .i64 0, .int .i64 0, .slice none 0 0] 27 (by simp))
  have H16 := Lib.hid (H10.out.step (al _ (.cells #[.int .i64 0, .int .i64 0, .int .i64 0, .int .i64 0, .int .i64 0, .slice none 0 0] 27)))
  clear H10
  have H17 := Lib.hid (H11.out.step (al _ (.cells #[.int .i64 0, .int .i64 0, .int .i64 0, .int .i64 0, .int .i64 0, .slice none 0 0] 27)))
  clear H11
  have H18 := Lib.hid (H12.out.step (al _ (.cells #[.int .i64 0, .int .i64 0, .int .i64 0, .int .i64 0, .int .i64 0, .slice none 0 0] 27)))
  clear H12
  have H19 := Lib.hid (H13.out.step (al _ (.cells #[.int .i64 0, .int .i64 0, .int .i64 0, .int .i64 0, .int .i64 0, .slice none 0 0] 27)))
  clear H13
  have H20 := Lib.hid (H9.out.step (al _ (.cells #[.int .i64 0, .int .i64 0, .int .i64 0, .int .i64 0, .int .i64 0, .slice none 0 0] 27)))
  clear H9
  have H21 := Lib.hid (keep2 (al _ (.cells #[.int .i64 0, .int .i64 0, .int .i64 0, .int .i64 0, .int .i64 0, .slice none 0 0] 27)) H14.out)
  clear H14
  go_enter Try.func15, Try.ntmps15
  have xs0 := H19.out.c 0 rfl
  have xs1 := H19.out.c 1 rfl
  have xs2 := H19.out.c 2 rfl
  have xs3 := H19.out.c 3 rfl
  have xs4 := H19.out.c 4 rfl
  have xs5 := H19.out.c 5 rfl
  have zs := H19.out.2.2
  have xp0 := H20.out.c 0 rfl
  have xp1 := H20.out.c 1 rfl
  have xp2 := H20.out.c 2 rfl
  have zp := H20.out.2.2
  have xr0 := H15.out.c 0 rfl
  have xr1 := H15.out.c 1 rfl
  have xr2 := H15.out.c 2 rfl
  have xr3 := H15.out.c 3 rfl
  have xr4 := H15.out.c 4 rfl
  have xr5 := H15.out.c 5 rfl
  have zr := H15.out.2.2
  go_wp2_with fail
  refine (copied_any m _ L w _ H21.out HLW.out H9.out H8.out).mono ?_
  rintro e u1 ⟨u, rfl, hu, b1⟩
  clear xs0 xs1 xs2 xs3 xs4 xs5 zs xp0 xp1 xp2 zp xr0 xr1 xr2 xr3 xr4 xr5 zr
  have H22 := Lib.hid (H16.out.step b1)
  clear H16
  have H23 := Lib.hid (H17.out.step b1)
  clear H17
  have H24 := Lib.hid (H18.out.step b1)
  clear H18
  have H25 := Lib.hid (H19.out.step b1)
  clear H19
  have H26 := Lib.hid (H20.out.step b1)
  clear H20
  have H27 := Lib.hid (H15.out.step b1)
  clear H15
  have H28 := Lib.hid (keep2 b1 H21.out)
  clear H21
  clear b1
  rw [show (((w.alloc (.cells #[.int .i64 m.v, .int .i64 m.c, .int .i64 m.s, .int .i64 m.r, .int .i64 m.t, .slice va L.length vc] 27)).alloc (.cells #[.int .i64 (i : Int), .slice da d.length dc, .slice pa p.length pc] 29)).alloc (.cells #[.int .i64 0, .int .i64 0, .int .i64 0, .int .i64 0, .int .i64 0, .slice none 0 0] 27)).heap.size = w.heap.size + 3 by simp] at hu
  obtain ⟨ua, uc, rfl, HGA⟩ : ∃ (a : Option Addr) (c : Nat), u = .slice a L.length c ∧ Hid (∀ g, a = some ⟨g, 0, none⟩ → L ≠ [] → g < u1.heap.size) := by
    obtain ⟨a, c, e, -, q⟩ := hu
    refine ⟨a, c, e, Lib.hid fun g hg hl => ?_⟩
    obtain ⟨g2, e2, -, h3, -⟩ := q hl
    obtain rfl : g = g2 := by rw [hg] at e2; simpa using e2
    exact h3
  have H29 := Lib.hid (hu)
  clear hu
  have H30 := Lib.hid (Cs.newB H28.out (u1.heap.size) #[.int .i64 m.v, .int .i64 m.c, .int .i64 m.s, .int .i64 m.r, .int .i64 m.t, .slice ua L.length uc] 27 (by simp))
  have H31 := Lib.hid (H22.out.step (al _ (.cells #[.int .i64 m.v, .int .i64 m.c, .int .i64 m.s, .int .i64 m.r, .int .i64 m.t, .slice ua L.length uc] 27)))
  clear H22
  have H32 := Lib.hid (H23.out.step (al _ (.cells #[.int .i64 m.v, .int .i64 m.c, .int .i64 m.s, .int .i64 m.r, .int .i64 m.t, .slice ua L.length uc] 27)))
  clear H23
  have H33 := Lib.hid (H24.out.step (al _ (.cells #[.int .i64 m.v, .int .i64 m.c, .int .i64 m.s, .int .i64 m.r, .int .i64 m.t, .slice ua L.length uc] 27)))
  clear H24
  have H34 := Lib.hid (H25.out.step (al _ (.cells #[.int .i64 m.v, .int .i64 m.c, .int .i64 m.s, .int .i64 m.r, .int .i64 m.t, .slice ua L.length uc] 27)))
  clear H25
  have H35 := Lib.hid (H26.out.step (al _ (.cells #[.int .i64 m.v, .int .i64 m.c, .int .i64 m.s, .int .i64 m.r, .int .i64 m.t, .slice ua L.length uc] 27)))
  clear H26
  have H36 := Lib.hid (H27.out.step (al _ (.cells #[.int .i64 m.v, .int .i64 m.c, .int .i64 m.s, .int .i64 m.r, .int .i64 m.t, .slice ua L.length uc] 27)))
  clear H27
  have H37 := Lib.hid (H29.out.step (al _ (.cells #[.int .i64 m.v, .int .i64 m.c, .int .i64 m.s, .int .i64 m.r, .int .i64 m.t, .slice ua L.length uc] 27)))
  clear H29
  have H38 := Lib.hid (keep2 (al _ (.cells #[.int .i64 m.v, .int .i64 m.c, .int .i64 m.s, .int .i64 m.r, .int .i64 m.t, .slice ua L.length uc] 27)) H28.out)
  clear H28
  have xs0 := H34.out.c 0 rfl
  have xs1 := H34.out.c 1 rfl
  have xs2 := H34.out.c 2 rfl
  have xs3 := H34.out.c 3 rfl
  have xs4 := H34.out.c 4 rfl
  have xs5 := H34.out.c 5 rfl
  have zs := H34.out.2.2
  have xp0 := H35.out.c 0 rfl
  have xp1 := H35.out.c 1 rfl
  have xp2 := H35.out.c 2 rfl
  have zp := H35.out.2.2
  have xr0 := H36.out.c 0 rfl
  have xr1 := H36.out.c 1 rfl
  have xr2 := H36.out.c 2 rfl
  have xr3 := H36.out.c 3 rfl
  have xr4 := H36.out.c 4 rfl
  have xr5 := H36.out.c 5 rfl
  have zr := H36.out.2.2
  have xa0 := H30.out.c 0 rfl
  have xa1 := H30.out.c 1 rfl
  have xa2 := H30.out.c 2 rfl
  have xa3 := H30.out.c 3 rfl
  have xa4 := H30.out.c 4 rfl
  have xa5 := H30.out.c 5 rfl
  have za := H30.out.2.2
  go_wp2_with fail
  refine (slot_any m _ L _ H31.out H9.out H8.out).mono ?_
  rintro e u2 ⟨rfl, b2⟩
  clear xs0 xs1 xs2 xs3 xs4 xs5 zs xp0 xp1 xp2 zp xr0 xr1 xr2 xr3 xr4 xr5 zr xa0 xa1 xa2 xa3 xa4 xa5 za
  have H39 := Lib.hid (H31.out.step b2)
  clear H31
  have H40 := Lib.hid (H32.out.step b2)
  clear H32
  have H41 := Lib.hid (H33.out.step b2)
  clear H33
  have H42 := Lib.hid (H34.out.step b2)
  clear H34
  have H43 := Lib.hid (H35.out.step b2)
  clear H35
  have H44 := Lib.hid (H36.out.step b2)
  clear H36
  have H45 := Lib.hid (H37.out.step b2)
  clear H37
  have H46 := Lib.hid (H30.out.step b2)
  clear H30
  have H47 := Lib.hid (keep2 b2 H38.out)
  clear H38
  clear b2
  rw [HSL.out]
  have xs0 := H42.out.c 0 rfl
  have xs1 := H42.out.c 1 rfl
  have xs2 := H42.out.c 2 rfl
  have xs3 := H42.out.c 3 rfl
  have xs4 := H42.out.c 4 rfl
  have xs5 := H42.out.c 5 rfl
  have zs := H42.out.2.2
  have xp0 := H43.out.c 0 rfl
  have xp1 := H43.out.c 1 rfl
  have xp2 := H43.out.c 2 rfl
  have zp := H43.out.2.2
  have xa0 := H46.out.c 0 rfl
  have xa1 := H46.out.c 1 rfl
  have xa2 := H46.out.c 2 rfl
  have xa3 := H46.out.c 3 rfl
  have xa4 := H46.out.c 4 rfl
  have xa5 := H46.out.c 5 rfl
  have za := H46.out.2.2
  go_wp2_with fail
  refine (fit_any m _ _ d _ H40.out HMF.out).mono ?_
  rintro e u3 ⟨rfl, b3⟩
  clear xs0 xs1 xs2 xs3 xs4 xs5 zs xp0 xp1 xp2 zp xa0 xa1 xa2 xa3 xa4 xa5 za
  have H48 := Lib.hid (H39.out.step b3)
  clear H39
  have H49 := Lib.hid (H40.out.step b3)
  clear H40
  have H50 := Lib.hid (H41.out.step b3)
  clear H41
  have H51 := Lib.hid (H42.out.step b3)
  clear H42
  have H52 := Lib.hid (H43.out.step b3)
  clear H43
  have H53 := Lib.hid (H44.out.step b3)
  clear H44
  have H54 := Lib.hid (H45.out.step b3)
  clear H45
  have H55 := Lib.hid (H46.out.step b3)
  clear H46
  have H56 := Lib.hid (keep2 b3 H47.out)
  clear H47
  clear b3
  rw [HFT.out]
  have xs0 := H51.out.c 0 rfl
  have xs1 := H51.out.c 1 rfl
  have xs2 := H51.out.c 2 rfl
  have xs3 := H51.out.c 3 rfl
  have xs4 := H51.out.c 4 rfl
  have xs5 := H51.out.c 5 rfl
  have zs := H51.out.2.2
  have xp0 := H52.out.c 0 rfl
  have xp1 := H52.out.c 1 rfl
  have xp2 := H52.out.c 2 rfl
  have zp := H52.out.2.2
  have xa0 := H55.out.c 0 rfl
  have xa1 := H55.out.c 1 rfl
  have xa2 := H55.out.c 2 rfl
  have xa3 := H55.out.c 3 rfl
  have xa4 := H55.out.c 4 rfl
  have xa5 := H55.out.c 5 rfl
  have za := H55.out.2.2
  go_wp2_with fail
  refine (proved_any m i L.length _ d _ p _ H49.out H50.out HMF.out HMC.out HI9.out HD9.out).mono ?_
  rintro e u4 ⟨rfl, b4⟩
  clear xs0 xs1 xs2 xs3 xs4 xs5 zs xp0 xp1 xp2 zp xa0 xa1 xa2 xa3 xa4 xa5 za
  have H57 := Lib.hid (H48.out.step b4)
  clear H48
  have H58 := Lib.hid (H49.out.step b4)
  clear H49
  have H59 := Lib.hid (H50.out.step b4)
  clear H50
  have H60 := Lib.hid (H51.out.step b4)
  clear H51
  have H61 := Lib.hid (H52.out.step b4)
  clear H52
  have H62 := Lib.hid (H53.out.step b4)
  clear H53
  have H63 := Lib.hid (H54.out.step b4)
  clear H54
  have H64 := Lib.hid (H55.out.step b4)
  clear H55
  have H65 := Lib.hid (keep2 b4 H56.out)
  clear H56
  clear b4
  rw [HPR.out]
  obtain ⟨g, rfl, hg, hgs, f0, ya, yc, x0, hy⟩ := H63.out.at HIL.out
  have HGN := Lib.hid hg
  have HGL := Lib.hid (HGA.out g rfl (by intro q; have := HIL.out; rw [q] at this; simp at this))
  clear HGA hy hg
  have t1 : (i : Int) < (L.length : Int) := by have := HIL.out; omega
  have t3 : i < L.length := HIL.out
  have xp0 := H61.out.c 0 rfl
  have xp1 := H61.out.c 1 rfl
  have xp2 := H61.out.c 2 rfl
  have zp := H61.out.2.2
  have xa0 := H64.out.c 0 rfl
  have xa1 := H64.out.c 1 rfl
  have xa2 := H64.out.c 2 rfl
  have xa3 := H64.out.c 3 rfl
  have xa4 := H64.out.c 4 rfl
  have xa5 := H64.out.c 5 rfl
  have za := H64.out.2.2
  have HGS := Lib.hid (show g < u4.heap.size ∧ (w.heap.size + 3 + 2) ≤ u4.heap.size from ⟨hgs, by have := HGN.out; omega⟩)
  go_upto_region 8 with fail
  clear xp0 xp1 xp2 zp xa0 xa1 xa2 xa3 xa4 xa5 za
  clear x0 f0 hgs t1 t3
  obtain ⟨lit, hlit⟩ : ∃ lit : (Nat → Value) → Act, lit = fun vs => { tmps := List.toArray (Value.agg #[Value.int IntKind.i64 m.v, Value.int IntKind.i64 m.c, Value.int IntKind.i64 m.s, Value.int IntKind.i64 m.r, Value.int IntKind.i64 m.t, Value.slice va L.length vc] :: Value.agg #[Value.int IntKind.i64 (i : Int), Value.slice da d.length dc, Value.slice pa p.length pc] :: Value.pointer (some { block := w.heap.size, off := 0 }) :: Value.pointer (some { block := w.heap.size + 1, off := 0 }) :: Value.pointer (some { block := w.heap.size + 1 + 1, off := 0 }) :: Value.int IntKind.i64 0 :: Value.pointer (some { block := u1.heap.size, off := 0 }) :: Value.agg #[Value.int IntKind.i64 m.v, Value.int IntKind.i64 m.c, Value.int IntKind.i64 m.s, Value.int IntKind.i64 m.r, Value.int IntKind.i64 m.t, Value.slice va L.length vc] :: Value.agg #[Value.int IntKind.i64 m.v, Value.int IntKind.i64 m.c, Value.int IntKind.i64 m.s, Value.int IntKind.i64 m.r, Value.int IntKind.i64 m.t, Value.slice (some { block := g, off := 0 }) L.length uc] :: Value.agg #[Value.int IntKind.i64 m.v, Value.int IntKind.i64 m.c, Value.int IntKind.i64 m.s, Value.int IntKind.i64 m.r, Value.int IntKind.i64 m.t, Value.slice va L.length vc] :: Value.bool true :: Value.bool false :: undef :: Value.pointer (some { block := w.heap.size, off := 0 }) :: Value.agg #[Value.int IntKind.i64 m.v, Value.int IntKind.i64 m.c, Value.int IntKind.i64 m.s, Value.int IntKind.i64 m.r, Value.int IntKind.i64 m.t] :: Value.pointer (some { block := w.heap.size + 1, off := 0 }) :: Value.int IntKind.i64 (i : Int) :: Value.pointer (some { block := w.heap.size + 1, off := 1 }) :: Value.slice da d.length dc :: Value.bool true :: Value.bool false :: undef :: Value.pointer (some { block := w.heap.size, off := 0 }) :: Value.agg #[Value.int IntKind.i64 m.v, Value.int IntKind.i64 m.c, Value.int IntKind.i64 m.s, Value.int IntKind.i64 m.r, Value.int IntKind.i64 m.t] :: Value.agg #[Value.int IntKind.i64 (i : Int), Value.slice da d.length dc, Value.slice pa p.length pc] :: Value.bool true :: Value.bool false :: undef :: vs 0 :: vs 1 :: vs 2 :: vs 3 :: vs 4 :: vs 5 :: vs 6 :: vs 7 :: undef :: []), defers := [] } := ⟨_, rfl⟩
  have HLIT := Lib.hid hlit
  clear hlit
  obtain ⟨val, hval⟩ : ∃ val : List Value, val = [.pointer (some ⟨(u1.heap.size), 5, none⟩), .slice (some ⟨g, 0, none⟩) L.length uc, .pointer (some ⟨(w.heap.size + 1), 0, none⟩), .int .i64 (i : Int), .pointer (some ⟨(w.heap.size + 1), 1, none⟩), .slice da d.length dc, undef, .pointer (some ⟨g, i, none⟩), undef] := ⟨_, rfl⟩
  have E0 := Lib.hid (show val.getD 0 undef = .pointer (some ⟨(u1.heap.size), 5, none⟩) by rw [hval]; rfl)
  have E1 := Lib.hid (show val.getD 1 undef = .slice (some ⟨g, 0, none⟩) L.length uc by rw [hval]; rfl)
  have E2 := Lib.hid (show val.getD 2 undef = .pointer (some ⟨(w.heap.size + 1), 0, none⟩) by rw [hval]; rfl)
  have E3 := Lib.hid (show val.getD 3 undef = .int .i64 (i : Int) by rw [hval]; rfl)
  have E4 := Lib.hid (show val.getD 4 undef = .pointer (some ⟨(w.heap.size + 1), 1, none⟩) by rw [hval]; rfl)
  have E5 := Lib.hid (show val.getD 5 undef = .slice da d.length dc by rw [hval]; rfl)
  have E7 := Lib.hid (show val.getD 7 undef = .pointer (some ⟨g, i, none⟩) by rw [hval]; rfl)
  clear hval
  obtain ⟨G, hG0⟩ : ∃ G : Bool → Nat → Value → World → Prop, G = (fun bq iq vq ww => (iq = 6 → QcL u4.heap.size d bq vq ww) ∧ (iq ≠ 6 → iq ≠ 8 → vq = val.getD iq undef)) := ⟨_, rfl⟩
  have HG := Lib.hid hG0
  clear hG0
  refine region_inv (NS lit 8 (fun p q => (p == 8 && q == 0) || (p == 8 && q == 1) || (p == 8 && q == 2) || (p == 8 && q == 3) || (p == 8 && q == 4) || (p == 8 && q == 5) || (p == 8 && q == 6) || (p == 8 && q == 7)) G fun bq wv => (bq = false → Below u4.heap.size u4 wv) ∧ (bq = true → OwR 0 (w.heap.size + 3 + 2) (L.set i d) (.slice (some ⟨g, 0, none⟩) L.length uc) wv ∧ Cs wv (u1.heap.size) #[.int .i64 m.v, .int .i64 m.c, .int .i64 m.s, .int .i64 m.r, .int .i64 m.t, .slice (some ⟨g, 0, none⟩) L.length uc] ∧ Cs wv (w.heap.size + 1 + 1) #[.int .i64 0, .int .i64 0, .int .i64 0, .int .i64 0, .int .i64 0, .slice none 0 0] ∧ Below w.heap.size w wv)) (by kernel_rfl) (by decide +kernel) ?_ ?_ ?_
  · exact NS.start (fun i => ([undef, undef, undef, undef, undef, undef, undef, undef, undef] : List Value).getD i undef) (by rw [HLIT.out]; rfl) ⟨fun _ => below_drew _ _, fun h => (by cases h)⟩
  · refine ⟨?_, ?_, ?_, ?_, ?_, ?_, ?_, ?_, ?_, trivial⟩
    · intro bf ac wv hfb haf hJ K' hK
      obtain ⟨vs, rfl, ja, hB, j4⟩ := hJ
      replace hK := Lib.hid hK
      rw [HG.out] at j4
      replace j4 := Lib.hid (And.intro ja j4)
      replace hB := Lib.hid hB
      clear ja haf
      rw [HLIT.out]
      go_simp
      exact hK.out _ _ (NS.next (wv := wv) (vs := vs) 0 (by omega) (fun q h => absurd h (by simp)) (x := .pointer (some ⟨(u1.heap.size), 5, none⟩)) (by rw [HLIT.out]; rfl) (by rw [HG.out]; exact j4.out) hB.out (by rw [HG.out]; exact fun _ _ h => h) (by rw [HG.out]; exact ⟨fun h => absurd h (by decide), fun _ _ => E0.out.symm⟩))
    · intro bf ac wv hfb haf hJ K' hK
      obtain ⟨vs, rfl, ja, hB, j4⟩ := hJ
      replace hK := Lib.hid hK
      simp [Region.binds] at haf
      rw [HG.out] at j4
      have e0 := ((j4 0 (by simp [haf])).2 (by decide) (by decide)).trans E0.out
      have hd : bf 8 = false := by
        cases h : bf 8
        · rfl
        · exact absurd ((ja 8 1 rfl h).symm.trans hfb) (by simp)
      have hM := Lib.hid (hB.1 hd)
      replace j4 := Lib.hid (And.intro ja j4)
      replace hB := Lib.hid hB
      clear ja haf
      have y5 := (H64.out.step hM.out).c 5 rfl
      have yz := (H64.out.step hM.out).2.2
      rw [HLIT.out]
      go_simp
      exact hK.out _ _ (NS.next (wv := wv) (vs := vs) 1 (by omega) (fun q h => absurd h (by simp)) (x := .slice (some ⟨g, 0, none⟩) L.length uc) (by rw [HLIT.out]; simp only [upv, e0, Nat.reduceBEq, cond_true, cond_false]) (by rw [HG.out]; exact j4.out) hB.out (by rw [HG.out]; exact fun _ _ h => h) (by rw [HG.out]; exact ⟨fun h => absurd h (by decide), fun _ _ => E1.out.symm⟩))
    · intro bf ac wv hfb haf hJ K' hK
      obtain ⟨vs, rfl, ja, hB, j4⟩ := hJ
      replace hK := Lib.hid hK
      rw [HG.out] at j4
      replace j4 := Lib.hid (And.intro ja j4)
      replace hB := Lib.hid hB
      clear ja haf
      rw [HLIT.out]
      go_simp
      exact hK.out _ _ (NS.next (wv := wv) (vs := vs) 2 (by omega) (fun q h => absurd h (by simp)) (x := .pointer (some ⟨(w.heap.size + 1), 0, none⟩)) (by rw [HLIT.out]; rfl) (by rw [HG.out]; exact j4.out) hB.out (by rw [HG.out]; exact fun _ _ h => h) (by rw [HG.out]; exact ⟨fun h => absurd h (by decide), fun _ _ => E2.out.symm⟩))
    · intro bf ac wv hfb haf hJ K' hK
      obtain ⟨vs, rfl, ja, hB, j4⟩ := hJ
      replace hK := Lib.hid hK
      simp [Region.binds] at haf
      rw [HG.out] at j4
      have e2 := ((j4 2 (by simp [haf])).2 (by decide) (by decide)).trans E2.out
      have hd : bf 8 = false := by
        cases h : bf 8
        · rfl
        · exact absurd ((ja 8 3 rfl h).symm.trans hfb) (by simp)
      have hM := Lib.hid (hB.1 hd)
      replace j4 := Lib.hid (And.intro ja j4)
      replace hB := Lib.hid hB
      clear ja haf
      have y0 := (H61.out.step hM.out).c 0 rfl
      have yz := (H61.out.step hM.out).2.2
      rw [HLIT.out]
      go_simp
      exact hK.out _ _ (NS.next (wv := wv) (vs := vs) 3 (by omega) (fun q h => absurd h (by simp)) (x := .int .i64 (i : Int)) (by rw [HLIT.out]; simp only [upv, e2, Nat.reduceBEq, cond_true, cond_false]) (by rw [HG.out]; exact j4.out) hB.out (by rw [HG.out]; exact fun _ _ h => h) (by rw [HG.out]; exact ⟨fun h => absurd h (by decide), fun _ _ => E3.out.symm⟩))
    · intro bf ac wv hfb haf hJ K' hK
      obtain ⟨vs, rfl, ja, hB, j4⟩ := hJ
      replace hK := Lib.hid hK
      rw [HG.out] at j4
      replace j4 := Lib.hid (And.intro ja j4)
      replace hB := Lib.hid hB
      clear ja haf
      rw [HLIT.out]
      go_simp
      exact hK.out _ _ (NS.next (wv := wv) (vs := vs) 4 (by omega) (fun q h => absurd h (by simp)) (x := .pointer (some ⟨(w.heap.size + 1), 1, none⟩)) (by rw [HLIT.out]; rfl) (by rw [HG.out]; exact j4.out) hB.out (by rw [HG.out]; exact fun _ _ h => h) (by rw [HG.out]; exact ⟨fun h => absurd h (by decide), fun _ _ => E4.out.symm⟩))
    · intro bf ac wv hfb haf hJ K' hK
      obtain ⟨vs, rfl, ja, hB, j4⟩ := hJ
      replace hK := Lib.hid hK
      simp [Region.binds] at haf
      rw [HG.out] at j4
      have e4 := ((j4 4 (by simp [haf])).2 (by decide) (by decide)).trans E4.out
      have hd : bf 8 = false := by
        cases h : bf 8
        · rfl
        · exact absurd ((ja 8 5 rfl h).symm.trans hfb) (by simp)
      have hM := Lib.hid (hB.1 hd)
      replace j4 := Lib.hid (And.intro ja j4)
      replace hB := Lib.hid hB
      clear ja haf
      have y1 := (H61.out.step hM.out).c 1 rfl
      have yz := (H61.out.step hM.out).2.2
      rw [HLIT.out]
      go_simp
      exact hK.out _ _ (NS.next (wv := wv) (vs := vs) 5 (by omega) (fun q h => absurd h (by simp)) (x := .slice da d.length dc) (by rw [HLIT.out]; simp only [upv, e4, Nat.reduceBEq, cond_true, cond_false]) (by rw [HG.out]; exact j4.out) hB.out (by rw [HG.out]; exact fun _ _ h => h) (by rw [HG.out]; exact ⟨fun h => absurd h (by decide), fun _ _ => E5.out.symm⟩))
    · intro bf ac wv hfb haf hJ K' hK
      obtain ⟨vs, rfl, ja, hB, j4⟩ := hJ
      replace hK := Lib.hid hK
      simp [Region.binds] at haf
      rw [HG.out] at j4
      have e5 := ((j4 5 (by simp [haf])).2 (by decide) (by decide)).trans E5.out
      have hd : bf 8 = false := by
        cases h : bf 8
        · rfl
        · exact absurd ((ja 8 6 rfl h).symm.trans hfb) (by simp)
      have hM := Lib.hid (hB.1 hd)
      replace j4 := Lib.hid (And.intro ja j4)
      replace hB := Lib.hid hB
      clear ja haf
      rw [HLIT.out]
      go_simp
      go_at_call 36
      refine (in_clone _ d _ (H58.out.step hM.out) (by have := HD9.out; omega)).mono ?_
      rintro e w4 ⟨u4, rfl, hu4, b4⟩
      obtain ⟨ca, cc, e4, hq4⟩ := qc_of hu4 hM.out.size
      subst e4
      exact hK.out _ _ (NS.next (wv := wv) (vs := vs) 6 (by omega) (fun q h => absurd h (by simp)) (x := .slice ca d.length cc) (by rw [HLIT.out]; simp only [upv, e5, Nat.reduceBEq, cond_true, cond_false]) (by rw [HG.out]; exact j4.out) ⟨fun _ => keep2 b4 hM.out, fun e => absurd (e.symm.trans hd) (by simp)⟩ (by rw [HG.out]; exact fun k hbk h => ⟨fun q => ((h.1 q).step b4), h.2⟩) (by rw [HG.out]; exact ⟨fun _ => (by rw [hd]; exact ⟨ca, cc, rfl, hq4⟩), fun h6 => absurd rfl h6⟩))
    · intro bf ac wv hfb haf hJ K' hK
      obtain ⟨vs, rfl, ja, hB, j4⟩ := hJ
      replace hK := Lib.hid hK
      simp [Region.binds] at haf
      rw [HG.out] at j4
      have e1 := ((j4 1 (by simp [haf])).2 (by decide) (by decide)).trans E1.out
      have e3 := ((j4 3 (by simp [haf])).2 (by decide) (by decide)).trans E3.out
      have hd : bf 8 = false := by
        cases h : bf 8
        · rfl
        · exact absurd ((ja 8 7 rfl h).symm.trans hfb) (by simp)
      have hM := Lib.hid (hB.1 hd)
      replace j4 := Lib.hid (And.intro ja j4)
      replace hB := Lib.hid hB
      clear ja haf
      have hil := HIL.out
      have hil2 : (i : Int) < (L.length : Int) := by omega
      rw [HLIT.out]
      go_simp
      exact hK.out _ _ (NS.next (wv := wv) (vs := vs) 7 (by omega) (fun q h => absurd h (by simp)) (x := .pointer (some ⟨g, i, none⟩)) (by rw [HLIT.out]; simp only [upv, e1, e3, Nat.reduceBEq, cond_true, cond_false]) (by rw [HG.out]; exact j4.out) hB.out (by rw [HG.out]; exact fun _ _ h => h) (by rw [HG.out]; exact ⟨fun h => absurd h (by decide), fun _ _ => E7.out.symm⟩))
    · intro bf ac wv hfb haf hJ K' hK
      obtain ⟨vs, rfl, ja, hB, j4⟩ := hJ
      replace hK := Lib.hid hK
      simp [Region.binds] at haf
      rw [HG.out] at j4
      have e6 := (j4 6 (by simp [haf])).1 rfl
      have e7 := ((j4 7 (by simp [haf])).2 (by decide) (by decide)).trans E7.out
      rw [hfb] at j4 hB
      try rw [hfb] at e6
      have HA := Lib.hid (show ∀ q, (fun p q => (p == 8 && q == 0) || (p == 8 && q == 1) || (p == 8 && q == 2) || (p == 8 && q == 3) || (p == 8 && q == 4) || (p == 8 && q == 5) || (p == 8 && q == 6) || (p == 8 && q == 7)) 8 q = true → bf q = true from fun q hi => by
        obtain rfl | rfl | rfl | rfl | rfl | rfl | rfl | rfl : q = 0 ∨ q = 1 ∨ q = 2 ∨ q = 3 ∨ q = 4 ∨ q = 5 ∨ q = 6 ∨ q = 7 := by simpa [or_assoc] using hi
        all_goals simp [haf])
      have hM := Lib.hid (hB.1 rfl)
      replace j4 := Lib.hid j4
      have HE := Lib.hid (And.intro ja HA.out)
      clear ja haf hB HA
      obtain ⟨ca, cc, e6, h4⟩ := e6
      replace h4 := h4 rfl
      rw [e6] at h4
      have hO := H63.out.step hM.out
      have hA := H64.out.step hM.out
      have hR := H62.out.step hM.out
      have hBl := keep2 hM.out H65.out
      obtain ⟨g2, hg2, hg3, hgs, f0, ya2, yc2, x0, -⟩ := hO.at HIL.out
      obtain rfl : g = g2 := by simpa using hg2
      clear hg2
      rw [HLIT.out]
      go_simp
      have hO2 := hO.put (u := .slice ca d.length cc) (x := d) HIL.out h4.1 (fun q b off n c e => by
        have := h4.2 q b off n c e
        have h9 := HGS.out
        exact ⟨.inr ⟨by omega, this.2⟩, by omega⟩)
      have hne1 : (u1.heap.size) ≠ g := by have := HGL.out; omega
      have hne2 : (w.heap.size + 1 + 1) ≠ g := by have := HGN.out; omega
      have hwg : w.heap.size ≤ g := by have := HGN.out; omega
      exact hK.out _ _ (NS.put (vs := vs) (w' := wv.setCell ⟨g, i, none⟩ (.slice ca d.length cc)) (by rw [HLIT.out]; simp only [e6, e7]) HE.out ⟨fun e => (by cases e), fun _ => ⟨hO2, Cs.other hA hne1 i _, Cs.other hR hne2 i _, hBl.setCell (p := ⟨g, i, none⟩) hwg _⟩⟩ (fun j hj hb => by
        have q := j4.out j hb
        rw [HG.out]
        exact ⟨fun h => (q.1 h).put _, q.2⟩) (fun v => by rw [HG.out]; exact ⟨fun h => absurd h (by decide), fun h6 h8 => absurd rfl h8⟩))
  · intro bf ac wv hall hJ
    obtain ⟨vs, rfl, -, hB, j4⟩ := hJ
    rw [HG.out] at j4
    rw [hall 8 (by decide)] at hB j4
    have hM := Lib.hid (hB.2 rfl)
    clear hB
    obtain ⟨hO9, hA9, hR9, hB9⟩ := hM.out
    have HO9 := Lib.hid hO9
    have HA9 := Lib.hid hA9
    have HR9 := Lib.hid hR9
    have HB9 := Lib.hid hB9
    clear hM j4 hall hO9 hA9 hR9 hB9
    rw [HLIT.out]
    dsimp only
    clear HLIT HG
    generalize vs = us8
    have xa0 := HA9.out.c 0 rfl
    have xa1 := HA9.out.c 1 rfl
    have xa2 := HA9.out.c 2 rfl
    have xa3 := HA9.out.c 3 rfl
    have xa4 := HA9.out.c 4 rfl
    have xa5 := HA9.out.c 5 rfl
    have za := HA9.out.2.2
    have xr0 := HR9.out.c 0 rfl
    have xr1 := HR9.out.c 1 rfl
    have xr2 := HR9.out.c 2 rfl
    have xr3 := HR9.out.c 3 rfl
    have xr4 := HR9.out.c 4 rfl
    have xr5 := HR9.out.c 5 rfl
    have zr := HR9.out.2.2
    have fr0 := HR9.out.f 0 (by simp)
    have fr1 := HR9.out.f 1 (by simp)
    have fr2 := HR9.out.f 2 (by simp)
    have fr3 := HR9.out.f 3 (by simp)
    have fr4 := HR9.out.f 4 (by simp)
    have fr5 := HR9.out.f 5 (by simp)
    have HLE := Lib.hid (show w.heap.size ≤ (w.heap.size + 1 + 1) from by omega)
    have q90 := Lib.hid (Cs.set HR9.out 0 (by simp) (.int .i64 m.v) (vs' := #[.int .i64 m.v, .int .i64 0, .int .i64 0, .int .i64 0, .int .i64 0, .slice none 0 0]) rfl)
    have q91 := Lib.hid (Cs.set q90.out 1 (by simp) (.int .i64 m.c) (vs' := #[.int .i64 m.v, .int .i64 m.c, .int .i64 0, .int .i64 0, .int .i64 0, .slice none 0 0]) rfl)
    have q92 := Lib.hid (Cs.set q91.out 2 (by simp) (.int .i64 m.s) (vs' := #[.int .i64 m.v, .int .i64 m.c, .int .i64 m.s, .int .i64 0, .int .i64 0, .slice none 0 0]) rfl)
    have q93 := Lib.hid (Cs.set q92.out 3 (by simp) (.int .i64 m.r) (vs' := #[.int .i64 m.v, .int .i64 m.c, .int .i64 m.s, .int .i64 m.r, .int .i64 0, .slice none 0 0]) rfl)
    have q94 := Lib.hid (Cs.set q93.out 4 (by simp) (.int .i64 m.t) (vs' := #[.int .i64 m.v, .int .i64 m.c, .int .i64 m.s, .int .i64 m.r, .int .i64 m.t, .slice none 0 0]) rfl)
    have q95 := Lib.hid (Cs.set q94.out 5 (by simp) (.slice (some ⟨g, 0, none⟩) L.length uc) (vs' := #[.int .i64 m.v, .int .i64 m.c, .int .i64 m.s, .int .i64 m.r, .int .i64 m.t, .slice (some ⟨g, 0, none⟩) L.length uc]) rfl)
    clear q90 q91 q92 q93 q94
    go_wp2
    have hC := q95.out
    have hB := ((((((HB9.out.setCell (p := ⟨(w.heap.size + 1 + 1), 0, none⟩) HLE.out (.int .i64 m.v)).setCell (p := ⟨(w.heap.size + 1 + 1), 1, none⟩) HLE.out (.int .i64 m.c)).setCell (p := ⟨(w.heap.size + 1 + 1), 2, none⟩) HLE.out (.int .i64 m.s)).setCell (p := ⟨(w.heap.size + 1 + 1), 3, none⟩) HLE.out (.int .i64 m.r)).setCell (p := ⟨(w.heap.size + 1 + 1), 4, none⟩) HLE.out (.int .i64 m.t)).setCell (p := ⟨(w.heap.size + 1 + 1), 5, none⟩) HLE.out (.slice (some ⟨g, 0, none⟩) L.length uc))
    have hX := (OwR.set (B := (w.heap.size + 1 + 1)) (OwR.set (B := (w.heap.size + 1 + 1)) (OwR.set (B := (w.heap.size + 1 + 1)) (OwR.set (B := (w.heap.size + 1 + 1)) (OwR.set (B := (w.heap.size + 1 + 1)) (OwR.set (B := (w.heap.size + 1 + 1)) HO9.out (by omega) (by omega) 0 (.int .i64 m.v)) (by omega) (by omega) 1 (.int .i64 m.c)) (by omega) (by omega) 2 (.int .i64 m.s)) (by omega) (by omega) 3 (.int .i64 m.r)) (by omega) (by omega) 4 (.int .i64 m.t)) (by omega) (by omega) 5 (.slice (some ⟨g, 0, none⟩) L.length uc))
    obtain ⟨V9, hV9⟩ : ∃ z9, ((((((wv.setCell ⟨(w.heap.size + 1 + 1), 0, none⟩ (.int .i64 m.v)).setCell ⟨(w.heap.size + 1 + 1), 1, none⟩ (.int .i64 m.c)).setCell ⟨(w.heap.size + 1 + 1), 2, none⟩ (.int .i64 m.s)).setCell ⟨(w.heap.size + 1 + 1), 3, none⟩ (.int .i64 m.r)).setCell ⟨(w.heap.size + 1 + 1), 4, none⟩ (.int .i64 m.t)).setCell ⟨(w.heap.size + 1 + 1), 5, none⟩ (.slice (some ⟨g, 0, none⟩) L.length uc)) = z9 := ⟨_, rfl⟩
    rw [hV9] at hC hB hX ⊢
    clear hV9
    have k0 : V9.cell? ⟨(w.heap.size + 1 + 1), 0, none⟩ = some (.int .i64 m.v) := hC.c 0 rfl
    have k1 : V9.cell? ⟨(w.heap.size + 1 + 1), 1, none⟩ = some (.int .i64 m.c) := hC.c 1 rfl
    have k2 : V9.cell? ⟨(w.heap.size + 1 + 1), 2, none⟩ = some (.int .i64 m.s) := hC.c 2 rfl
    have k3 : V9.cell? ⟨(w.heap.size + 1 + 1), 3, none⟩ = some (.int .i64 m.r) := hC.c 3 rfl
    have k4 : V9.cell? ⟨(w.heap.size + 1 + 1), 4, none⟩ = some (.int .i64 m.t) := hC.c 4 rfl
    have k5 : V9.cell? ⟨(w.heap.size + 1 + 1), 5, none⟩ = some (.slice (some ⟨g, 0, none⟩) L.length uc) := hC.c 5 rfl
    exact bodyPost_ret (v := .tuple #[.agg #[.int .i64 m.v, .int .i64 m.c, .int .i64 m.s, .int .i64 m.r, .int .i64 m.t, .slice (some ⟨g, 0, none⟩) L.length uc], .int .i64 0]) (by simp [results, Try.results15, go_sem, k0, k1, k2, k3, k4, k5]) rfl (⟨_, _, rfl, (show w.heap.size ≤ w.heap.size + 3 + 2 by omega), hX, hB⟩)
set_option maxRecDepth 100000 in
set_option maxHeartbeats 8000000 in
/-- What 'Add' answers. -/
def adE (m : Mf) (L : List (List Int)) (i : Int) (d p : List Int) : Int := if slB m L = false then 1 else if ftB m i d = false then 24 else if prB m i.toNat L.length d p = false then 17 else 0
def adL (m : Mf) (L : List (List Int)) (i : Int) (d p : List Int) : List (List Int) := if adE m L i d p = 0 then L.set i.toNat d else L
theorem ft_lt {m : Mf} {i : Int} {d : List Int} (h : ftB m i d = true) : 0 ≤ i ∧ i < m.c := by
  unfold ftB at h
  rw [Bool.and_eq_true, inB_iff] at h
  omega
theorem add_any (m : Mf) (i : Int) (v : Value) (L : List (List Int)) (vd : Value) (d : List Int) (vp : Value) (p : List Int) (w : World) (h : RowsAt w v L) (hd : IntsAt w vd d) (hp : CapI w vp p) (h9 : L.length ≤ 1000) (h8 : ∀ x ∈ L, x.length ≤ 1000) (hd9 : d.length ≤ 1000) {E : Int} {L' : List (List Int)} (hE : adE m L i d p = E) (hL : adL m L i d p = L') : Calls Try.prog 15 #[.agg #[.int .i64 m.v, .int .i64 m.c, .int .i64 m.s, .int .i64 m.r, .int .i64 m.t, v], .agg #[.int .i64 i, vd, vp]] w (ChO m L' E w) := by
  subst hL hE
  cases h1 : slB m L
  · have e : adE m L i d p = 1 := by unfold adE; rw [if_pos h1]
    rw [show adL m L i d p = L by unfold adL; rw [e, if_neg (by simp)], e]
    exact add_a m i v L vd d vp p w h hd hp h9 h8 hd9 h1
  · cases h2 : ftB m i d
    · have e : adE m L i d p = 24 := by unfold adE; rw [if_neg (by rw [h1]; simp), if_pos h2]
      rw [show adL m L i d p = L by unfold adL; rw [e, if_neg (by simp)], e]
      exact add_f m i v L vd d vp p w h hd hp h9 h8 hd9 h1 h2
    · have hi := ft_lt h2
      have hl := sl_len h1
      obtain ⟨k, rfl⟩ : ∃ k : Nat, i = k := ⟨i.toNat, by omega⟩
      have hk : k < L.length := by omega
      cases h3 : prB m k L.length d p
      · have e : adE m L k d p = 17 := by unfold adE; rw [if_neg (by rw [h1]; simp), if_neg (by rw [h2]; simp), Int.toNat_natCast, if_pos h3]
        rw [show adL m L k d p = L by unfold adL; rw [e, if_neg (by simp)], e]
        exact add_p m k v L vd d vp p w h hd hp h9 h8 hd9 h1 h2 hk h3
      · have e : adE m L k d p = 0 := by unfold adE; rw [if_neg (by rw [h1]; simp), if_neg (by rw [h2]; simp), Int.toNat_natCast, if_neg (by rw [h3]; simp)]
        rw [show adL m L k d p = L.set k d by unfold adL; rw [if_pos e, Int.toNat_natCast], e]
        exact add_n m k v L vd d vp p w h hd hp h9 h8 hd9 h1 h2 hk h3
end Go.Proofs.Yteodafhgfcbdpaa
