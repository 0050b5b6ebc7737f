/- Delivery, the reference: 'Receive', an order is executed. -/
import Derived.Test.YtkamkkjijjkfdaaHa
import Derived.Test.YtkamkkjijjkfdaaDy
namespace Go.Proofs.Ytkamkkjijjkfdaa
open Go.RowKit

theorem rknown_no (t f dn a b c d : Int) (sa va : Option Addr) (sc vc : Nat) (L : List Bool) (l : List Int) (w : World) (hs : BosAt w (.slice sa L.length sc) L) (h : t < a ∨ (t - a < 16 ∧ L.getD (t - a).toNat false = false)) (hw : WF t L) (ha : 0 ≤ a) :
    Calls Try.prog 34 #[.agg #[.int .i64 t, .slice sa L.length sc, .int .i64 f, .slice va l.length vc, .int .i64 dn], .agg #[.int .i64 a, .int .i64 b, .int .i64 c, .int .i64 d]] w fun e w' => e = .returned (.bool false) ∧ Below w.heap.size w w' := by
  by_cases hta : t < a
  · exact rknown_over t f dn a b c d sa va sc vc L l w hs hta
  · rcases h with h | ⟨h1, h2⟩
    · omega
    · exact rknown_in t f dn a b c d sa va sc vc L l w hs (by omega) h1 ⟨hw.2.1, hw.2.2.1⟩ ha hw.1 false h2
theorem racc_did {t a T : Int} {L A : List Bool} (hw : WF t L) (h0 : 0 ≤ a ∧ a ≤ 1000000) (h : t < a ∨ (t - a < 16 ∧ L.getD (t - a).toNat false = false)) (hT : accT t L a = T) (hA : accL t L a = A) (sa : Option Addr) (sc : Nat) (hc : L.length ≤ sc) (w : World) (hs : BosAt w (.slice sa L.length sc) L) :
    Calls Try.prog 35 #[.agg #[.int .i64 t, .slice sa L.length sc], .int .i64 a] w fun e w' => ∃ (aa : Option Addr) (cc : Nat), e = .returned (.tuple #[.agg #[.int .i64 T, .slice aa 16 cc], .int .i64 0]) ∧ 16 ≤ cc ∧ BosAt w' (.slice aa 16 cc) A ∧ Below w.heap.size w w' := by
  have hl := hw.1
  rw [hl] at hs hc ⊢
  refine (raccept_wf t sa sc L a w hs hw hc).mono ?_
  rintro e w' ⟨aa, cc, rfl, q1, q2, q3⟩
  have hlA : A.length = 16 := by rw [← hA]; exact (wf_acc a hw).1
  rw [hT, hA, hlA, acc_new h0 h]
  rw [hA, hlA] at q1 q2
  exact ⟨aa, cc, rfl, q1, q2, q3⟩
/-- A list of numbers is appended to an empty row of one's own. -/
theorem app_ints {w : World} {base g sc : Nat} {sa : Option Addr} {L : List Int} (h : IntsAt w (.slice sa L.length sc) L) (hr : w.ownsRow base 3 1 (.slice (some ⟨g, 0, none⟩) 0 0) 0 []) (h9 : L.length ≤ 100000) (hl : base ≤ w.heap.size) :
    ∃ (a : Option Addr) (c : Nat) (w' : World), (Builtin.append_ #[28, 28] 28 #[.slice (some ⟨g, 0, none⟩) 0 0, .slice sa L.length sc]).run Try.prog w = .ok (.slice a L.length c) w' ∧ Below w.heap.size w w' ∧ w'.ownsRow base 3 1 (.slice a L.length c) L.length (L.map (Value.int .i64)) := by
  obtain ⟨i0, hi, hz0, hz1, hz2⟩ := info_parts in_info
  have h2 := h
  obtain ⟨a, cap, hv, hm, hc⟩ := h2
  obtain ⟨rfl, rfl⟩ : sa = a ∧ sc = cap := by simpa using hv
  by_cases hL : L = []
  · subst hL
    refine ⟨some ⟨g, 0, none⟩, 0, w, ?_, Below.refl _ _, hr⟩
    cases sa <;> simp [Builtin.append_, run_underlying Try.underlying28, sizeOf, typeInfo, hi, Builtin.lenOf, Builtin.firstCells, storeCells, loadCells, loadCellsFrom]
  · obtain ⟨b1, o1, rfl, -⟩ := hc hL
    have hpos : 0 < L.length := List.length_pos_iff.2 hL
    obtain ⟨v', w', q1, q2, q3, -, -⟩ := run_append_own_at (P := Try.prog) w base 28 28 3 i0 _ 1 8 Try.underlying28 hi hz0 hz1 hz2 rfl (by decide) _ 0 [] hr ⟨b1, o1, none⟩ L.length sc (L.map (Value.int .i64)) (by simp) (in_cells h _ rfl) (in_one L) (by unfold maxLen; omega) (by omega) hl
    have q4 := run_append_grow (P := Try.prog) (w := w) 28 28 3 i0 _ Try.underlying28 hi hz0 ⟨g, 0, none⟩ 0 0 [] (by simp) (fun j v hj => by simp at hj) ⟨b1, o1, none⟩ L.length sc (L.map (Value.int .i64)) (by rw [hz1]; simp) (in_cells h _ rfl) (by omega) (by omega) (by rw [Nat.zero_add, nextslicecap_zero hpos, hz2]; omega)
    rw [q1] at q4
    obtain ⟨e1, e2⟩ : v' = _ ∧ w' = _ := by simpa using q4
    have q2' : w'.ownsRow base 3 1 v' L.length (L.map (Value.int .i64)) := by simpa using q2
    obtain ⟨a', c', e3⟩ := row_slice q2'
    rw [e3] at q1 q2'
    exact ⟨a', c', w', q1, by rw [e2]; exact (below_drew w.heap.size w).alloc (Nat.le_refl _) _, q2'⟩
theorem row_box {w : World} {k base n c : Nat} {a : Option Addr} {xs : List Value} {vs : Array Value} (hz : BoxN w k vs 30) (h : w.ownsRow base 3 1 (.slice a n c) n xs) : nb a k := by
  intro g o e
  subst e
  obtain ⟨g', cap, cur, e1, -, h2, -⟩ := h.2.resolve_left (fun q => by cases q.1)
  cases e1
  rintro rfl
  have h' : w.heap[g]? = some (.cells vs 30 (0, 0)) := hz
  rw [h'] at h2
  cases h2
def AgV (T b dn : Int) (a1 : Option Addr) (c1 : Nat) (a8 : Option Addr) (n8 c8 : Nat) : Array Value := #[.int .i64 T, .slice a1 16 c1, .int .i64 b, .slice a8 n8 c8, .int .i64 dn]
set_option maxRecDepth 100000 in
set_option maxHeartbeats 8000000 in
theorem rreceive_did (t f dn a b c d : Int) (sa va : Option Addr) (sc vc : Nat) (L : List Bool) (l : List Int) (w : World) (hs : BosAt w (.slice sa L.length sc) L) (hc : L.length ≤ sc) (hv : IntsAt w (.slice va l.length vc) l) (h9 : l.length ≤ 100000) (hwf : WF t L) (hrv : rvB f l dn = true) (hop : orB a b c d = true) (hcl : c < l.length) (h5 : t < a ∨ (t - a < 16 ∧ L.getD (t - a).toNat false = false)) (h6 : f ≤ b) {T : Int} {A : List Bool} (hT : accT t L a = T) (hA : accL t L a = A) :
    Calls Try.prog 14 #[.agg #[.int .i64 t, .slice sa L.length sc, .int .i64 f, .slice va l.length vc, .int .i64 dn], .agg #[.int .i64 a, .int .i64 b, .int .i64 c, .int .i64 d]] w (RrP w T A b l.length (l.set c.toNat d) (dn + 1) true 0) := by
  have HS := Lib.hid hs
  have HV := Lib.hid hv
  have HCP := Lib.hid hc
  have H9 := Lib.hid h9
  clear hs hv hc h9
  have HWF := Lib.hid hwf
  have HRV := Lib.hid hrv
  have HOP := Lib.hid hop
  have HK := Lib.hid h5
  have HT := Lib.hid hT
  have HA := Lib.hid hA
  have HDN := Lib.hid (show IntKind.i64.wrap (dn + 1) = dn + 1 from IntWalk.i64_in _ (by have h1 := hrv; unfold rvB at h1; rw [Bool.and_eq_true, Bool.and_eq_true, inr_iff, inr_iff] at h1; omega))
  obtain ⟨cn, hcn⟩ : ∃ cn : Nat, c = (cn : Int) := ⟨c.toNat, by have := (orB_iff hop).2.2.1; omega⟩
  subst hcn
  have HCL := Lib.hid (show cn < l.length by omega)
  have g1 : decide ((cn : Int) ≥ (l.length : Int)) = false := by simp; omega
  have g2 : decide ((l.length : Int) ≤ (cn : Int)) = false := by simp; omega
  have g2b : decide (l.length ≤ cn) = false := by simp; omega
  have HWT := Lib.hid (And.intro hwf.2.1 hwf.2.2.1)
  have e16 : wrap64 (t - 16) = t - 16 := IntWalk.wrap64_in _ (by have := HWT.out; omega)
  have HLT := Lib.hid (show t - 16 < a by omega)
  have g3 : decide (a ≤ t - 16) = false := by simp; omega
  have g4 : decide (b < f) = false := by simp; omega
  clear hwf hrv hop hcl h5 h6 hT hA
  have H0 := Lib.hid (Below.refl w.heap.size w)
  have H1 := Lib.hid (keep2 (al w (.cells #[.int .i64 t, .slice sa L.length sc, .int .i64 f, .slice va l.length vc, .int .i64 dn] 30)) H0.out)
  clear H0
  have H2 := Lib.hid (Cs.new w (w.heap.size) #[.int .i64 t, .slice sa L.length sc, .int .i64 f, .slice va l.length vc, .int .i64 dn] 30 (by simp))
  have H3 := Lib.hid (H2.out.step (al (w.alloc (.cells #[.int .i64 t, .slice sa L.length sc, .int .i64 f, .slice va l.length vc, .int .i64 dn] 30)) (.cells #[.int .i64 a, .int .i64 b, .int .i64 (cn : Int), .int .i64 d] 32)))
  clear H2
  have H4 := Lib.hid (keep2 (al (w.alloc (.cells #[.int .i64 t, .slice sa L.length sc, .int .i64 f, .slice va l.length vc, .int .i64 dn] 30)) (.cells #[.int .i64 a, .int .i64 b, .int .i64 (cn : Int), .int .i64 d] 32)) H1.out)
  clear H1
  have H5 := Lib.hid (Cs.new (w.alloc (.cells #[.int .i64 t, .slice sa L.length sc, .int .i64 f, .slice va l.length vc, .int .i64 dn] 30)) (w.heap.size + 1) #[.int .i64 a, .int .i64 b, .int .i64 (cn : Int), .int .i64 d] 32 (by simp))
  have H6 := Lib.hid (H3.out.step (al ((w.alloc (.cells #[.int .i64 t, .slice sa L.length sc, .int .i64 f, .slice va l.length vc, .int .i64 dn] 30)).alloc (.cells #[.int .i64 a, .int .i64 b, .int .i64 (cn : Int), .int .i64 d] 32)) (.cells #[.int .i64 0, .slice none 0 0, .int .i64 0, .slice none 0 0, .int .i64 0] 30)))
  clear H3
  have H7 := Lib.hid (H5.out.step (al ((w.alloc (.cells #[.int .i64 t, .slice sa L.length sc, .int .i64 f, .slice va l.length vc, .int .i64 dn] 30)).alloc (.cells #[.int .i64 a, .int .i64 b, .int .i64 (cn : Int), .int .i64 d] 32)) (.cells #[.int .i64 0, .slice none 0 0, .int .i64 0, .slice none 0 0, .int .i64 0] 30)))
  clear H5
  have H8 := Lib.hid (keep2 (al ((w.alloc (.cells #[.int .i64 t, .slice sa L.length sc, .int .i64 f, .slice va l.length vc, .int .i64 dn] 30)).alloc (.cells #[.int .i64 a, .int .i64 b, .int .i64 (cn : Int), .int .i64 d] 32)) (.cells #[.int .i64 0, .slice none 0 0, .int .i64 0, .slice none 0 0, .int .i64 0] 30)) H4.out)
  clear H4
  have H9 := Lib.hid (Cs.new ((w.alloc (.cells #[.int .i64 t, .slice sa L.length sc, .int .i64 f, .slice va l.length vc, .int .i64 dn] 30)).alloc (.cells #[.int .i64 a, .int .i64 b, .int .i64 (cn : Int), .int .i64 d] 32)) (w.heap.size + 1 + 1) #[.int .i64 0, .slice none 0 0, .int .i64 0, .slice none 0 0, .int .i64 0] 30 (by simp))
  have HZB := Lib.hid (show BoxN (((w.alloc (.cells #[.int .i64 t, .slice sa L.length sc, .int .i64 f, .slice va l.length vc, .int .i64 dn] 30)).alloc (.cells #[.int .i64 a, .int .i64 b, .int .i64 (cn : Int), .int .i64 d] 32)).alloc (.cells Go.Proofs.Ytkamkkjijjkfdaa.Z5 30)) (w.heap.size + 1 + 1) Go.Proofs.Ytkamkkjijjkfdaa.Z5 30 from by
    have h := BoxN.new ((w.alloc (.cells #[.int .i64 t, .slice sa L.length sc, .int .i64 f, .slice va l.length vc, .int .i64 dn] 30)).alloc (.cells #[.int .i64 a, .int .i64 b, .int .i64 (cn : Int), .int .i64 d] 32)) Go.Proofs.Ytkamkkjijjkfdaa.Z5 30
    simpa using h)
  go_enter Try.func14, Try.ntmps14
  have xR0 : (((w.alloc (.cells #[.int .i64 t, .slice sa L.length sc, .int .i64 f, .slice va l.length vc, .int .i64 dn] 30)).alloc (.cells #[.int .i64 a, .int .i64 b, .int .i64 (cn : Int), .int .i64 d] 32)).alloc (.cells #[.int .i64 0, .slice none 0 0, .int .i64 0, .slice none 0 0, .int .i64 0] 30)).cell? ⟨(w.heap.size), 0, none⟩ = some (.int .i64 t) := H6.out.c 0 rfl
  have xR1 : (((w.alloc (.cells #[.int .i64 t, .slice sa L.length sc, .int .i64 f, .slice va l.length vc, .int .i64 dn] 30)).alloc (.cells #[.int .i64 a, .int .i64 b, .int .i64 (cn : Int), .int .i64 d] 32)).alloc (.cells #[.int .i64 0, .slice none 0 0, .int .i64 0, .slice none 0 0, .int .i64 0] 30)).cell? ⟨(w.heap.size), 1, none⟩ = some (.slice sa L.length sc) := H6.out.c 1 rfl
  have xR2 : (((w.alloc (.cells #[.int .i64 t, .slice sa L.length sc, .int .i64 f, .slice va l.length vc, .int .i64 dn] 30)).alloc (.cells #[.int .i64 a, .int .i64 b, .int .i64 (cn : Int), .int .i64 d] 32)).alloc (.cells #[.int .i64 0, .slice none 0 0, .int .i64 0, .slice none 0 0, .int .i64 0] 30)).cell? ⟨(w.heap.size), 2, none⟩ = some (.int .i64 f) := H6.out.c 2 rfl
  have xR3 : (((w.alloc (.cells #[.int .i64 t, .slice sa L.length sc, .int .i64 f, .slice va l.length vc, .int .i64 dn] 30)).alloc (.cells #[.int .i64 a, .int .i64 b, .int .i64 (cn : Int), .int .i64 d] 32)).alloc (.cells #[.int .i64 0, .slice none 0 0, .int .i64 0, .slice none 0 0, .int .i64 0] 30)).cell? ⟨(w.heap.size), 3, none⟩ = some (.slice va l.length vc) := H6.out.c 3 rfl
  have xR4 : (((w.alloc (.cells #[.int .i64 t, .slice sa L.length sc, .int .i64 f, .slice va l.length vc, .int .i64 dn] 30)).alloc (.cells #[.int .i64 a, .int .i64 b, .int .i64 (cn : Int), .int .i64 d] 32)).alloc (.cells #[.int .i64 0, .slice none 0 0, .int .i64 0, .slice none 0 0, .int .i64 0] 30)).cell? ⟨(w.heap.size), 4, none⟩ = some (.int .i64 dn) := H6.out.c 4 rfl
  have zR : (w.heap.size) < (((w.alloc (.cells #[.int .i64 t, .slice sa L.length sc, .int .i64 f, .slice va l.length vc, .int .i64 dn] 30)).alloc (.cells #[.int .i64 a, .int .i64 b, .int .i64 (cn : Int), .int .i64 d] 32)).alloc (.cells #[.int .i64 0, .slice none 0 0, .int .i64 0, .slice none 0 0, .int .i64 0] 30)).heap.size := H6.out.2.2
  go_wp2_with fail
  refine (rrecv_win t f dn sa va sc vc L l _ (HS.out.step H8.out) HCP.out (HV.out.step H8.out) HWF.out _ HRV.out).mono ?_
  rintro e u1 ⟨rfl, b1⟩
  clear xR0 xR1 xR2 xR3 xR4 zR
  have H10 := Lib.hid (H6.out.step b1)
  clear H6
  have H11 := Lib.hid (H7.out.step b1)
  clear H7
  have H12 := Lib.hid (H9.out.step b1)
  clear H9
  have H13 := Lib.hid (HZB.out.step b1)
  clear HZB
  have H14 := Lib.hid (keep2 b1 H8.out)
  clear H8
  clear b1
  have xO0 : u1.cell? ⟨(w.heap.size + 1), 0, none⟩ = some (.int .i64 a) := H11.out.c 0 rfl
  have xO1 : u1.cell? ⟨(w.heap.size + 1), 1, none⟩ = some (.int .i64 b) := H11.out.c 1 rfl
  have xO2 : u1.cell? ⟨(w.heap.size + 1), 2, none⟩ = some (.int .i64 (cn : Int)) := H11.out.c 2 rfl
  have xO3 : u1.cell? ⟨(w.heap.size + 1), 3, none⟩ = some (.int .i64 d) := H11.out.c 3 rfl
  have zO : (w.heap.size + 1) < u1.heap.size := H11.out.2.2
  have xR0 : u1.cell? ⟨(w.heap.size), 0, none⟩ = some (.int .i64 t) := H10.out.c 0 rfl
  have xR1 : u1.cell? ⟨(w.heap.size), 1, none⟩ = some (.slice sa L.length sc) := H10.out.c 1 rfl
  have xR2 : u1.cell? ⟨(w.heap.size), 2, none⟩ = some (.int .i64 f) := H10.out.c 2 rfl
  have xR3 : u1.cell? ⟨(w.heap.size), 3, none⟩ = some (.slice va l.length vc) := H10.out.c 3 rfl
  have xR4 : u1.cell? ⟨(w.heap.size), 4, none⟩ = some (.int .i64 dn) := H10.out.c 4 rfl
  have zR : (w.heap.size) < u1.heap.size := H10.out.2.2
  go_wp2_with fail
  refine (rorder_any a b (cn : Int) d _ HOP.out _).mono ?_
  rintro e u2 ⟨rfl, b2⟩
  clear xO0 xO1 xO2 xO3 zO xR0 xR1 xR2 xR3 xR4 zR
  have H15 := Lib.hid (H10.out.step b2)
  clear H10
  have H16 := Lib.hid (H11.out.step b2)
  clear H11
  have H17 := Lib.hid (H12.out.step b2)
  clear H12
  have H18 := Lib.hid (H13.out.step b2)
  clear H13
  have H19 := Lib.hid (keep2 b2 H14.out)
  clear H14
  clear b2
  have xR0 : u2.cell? ⟨(w.heap.size), 0, none⟩ = some (.int .i64 t) := H15.out.c 0 rfl
  have xR1 : u2.cell? ⟨(w.heap.size), 1, none⟩ = some (.slice sa L.length sc) := H15.out.c 1 rfl
  have xR2 : u2.cell? ⟨(w.heap.size), 2, none⟩ = some (.int .i64 f) := H15.out.c 2 rfl
  have xR3 : u2.cell? ⟨(w.heap.size), 3, none⟩ = some (.slice va l.length vc) := H15.out.c 3 rfl
  have xR4 : u2.cell? ⟨(w.heap.size), 4, none⟩ = some (.int .i64 dn) := H15.out.c 4 rfl
  have zR : (w.heap.size) < u2.heap.size := H15.out.2.2
  have xO0 : u2.cell? ⟨(w.heap.size + 1), 0, none⟩ = some (.int .i64 a) := H16.out.c 0 rfl
  have xO1 : u2.cell? ⟨(w.heap.size + 1), 1, none⟩ = some (.int .i64 b) := H16.out.c 1 rfl
  have xO2 : u2.cell? ⟨(w.heap.size + 1), 2, none⟩ = some (.int .i64 (cn : Int)) := H16.out.c 2 rfl
  have xO3 : u2.cell? ⟨(w.heap.size + 1), 3, none⟩ = some (.int .i64 d) := H16.out.c 3 rfl
  have zO : (w.heap.size + 1) < u2.heap.size := H16.out.2.2
  go_wp2_with fail
  refine (rknown_no t f dn a b (cn : Int) d sa va sc vc L l _ (HS.out.step H19.out) HK.out HWF.out (orB_iff HOP.out).1.1).mono ?_
  rintro e u3 ⟨rfl, b3⟩
  clear xR0 xR1 xR2 xR3 xR4 zR xO0 xO1 xO2 xO3 zO
  have H20 := Lib.hid (H15.out.step b3)
  clear H15
  have H21 := Lib.hid (H16.out.step b3)
  clear H16
  have H22 := Lib.hid (H17.out.step b3)
  clear H17
  have H23 := Lib.hid (H18.out.step b3)
  clear H18
  have H24 := Lib.hid (keep2 b3 H19.out)
  clear H19
  clear b3
  have xR0 : u3.cell? ⟨(w.heap.size), 0, none⟩ = some (.int .i64 t) := H20.out.c 0 rfl
  have xR1 : u3.cell? ⟨(w.heap.size), 1, none⟩ = some (.slice sa L.length sc) := H20.out.c 1 rfl
  have xR2 : u3.cell? ⟨(w.heap.size), 2, none⟩ = some (.int .i64 f) := H20.out.c 2 rfl
  have xR3 : u3.cell? ⟨(w.heap.size), 3, none⟩ = some (.slice va l.length vc) := H20.out.c 3 rfl
  have xR4 : u3.cell? ⟨(w.heap.size), 4, none⟩ = some (.int .i64 dn) := H20.out.c 4 rfl
  have zR : (w.heap.size) < u3.heap.size := H20.out.2.2
  have xO0 : u3.cell? ⟨(w.heap.size + 1), 0, none⟩ = some (.int .i64 a) := H21.out.c 0 rfl
  have xO1 : u3.cell? ⟨(w.heap.size + 1), 1, none⟩ = some (.int .i64 b) := H21.out.c 1 rfl
  have xO2 : u3.cell? ⟨(w.heap.size + 1), 2, none⟩ = some (.int .i64 (cn : Int)) := H21.out.c 2 rfl
  have xO3 : u3.cell? ⟨(w.heap.size + 1), 3, none⟩ = some (.int .i64 d) := H21.out.c 3 rfl
  have zO : (w.heap.size + 1) < u3.heap.size := H21.out.2.2
  go_wp2_with fail
  refine (racc_did HWF.out (orB_iff HOP.out).1 HK.out HT.out HA.out sa sc HCP.out _ (HS.out.step H24.out)).mono ?_
  rintro e u4 ⟨a1, c1, rfl, hc1, hB1, b4⟩
  clear xR0 xR1 xR2 xR3 xR4 zR xO0 xO1 xO2 xO3 zO
  have H25 := Lib.hid (H20.out.step b4)
  clear H20
  have H26 := Lib.hid (H21.out.step b4)
  clear H21
  have H27 := Lib.hid (H22.out.step b4)
  clear H22
  have H28 := Lib.hid (H23.out.step b4)
  clear H23
  have H29 := Lib.hid (keep2 b4 H24.out)
  clear H24
  clear b4
  have H30 := Lib.hid (hB1)
  have HC1 := Lib.hid hc1
  clear hB1 hc1
  have H31 := Lib.hid (H25.out.step (al u4 (.cells #[.int .i64 T, .slice a1 16 c1] 27)))
  clear H25
  have H32 := Lib.hid (H26.out.step (al u4 (.cells #[.int .i64 T, .slice a1 16 c1] 27)))
  clear H26
  have H33 := Lib.hid (H27.out.step (al u4 (.cells #[.int .i64 T, .slice a1 16 c1] 27)))
  clear H27
  have H34 := Lib.hid (H28.out.step (al u4 (.cells #[.int .i64 T, .slice a1 16 c1] 27)))
  clear H28
  have H35 := Lib.hid (H30.out.step (al u4 (.cells #[.int .i64 T, .slice a1 16 c1] 27)))
  clear H30
  have H36 := Lib.hid (keep2 (al u4 (.cells #[.int .i64 T, .slice a1 16 c1] 27)) H29.out)
  clear H29
  have H37 := Lib.hid (Cs.new u4 (u4.heap.size) #[.int .i64 T, .slice a1 16 c1] 27 (by simp))
  have xR0 : (u4.alloc (.cells #[.int .i64 T, .slice a1 16 c1] 27)).cell? ⟨(w.heap.size), 0, none⟩ = some (.int .i64 t) := H31.out.c 0 rfl
  have xR1 : (u4.alloc (.cells #[.int .i64 T, .slice a1 16 c1] 27)).cell? ⟨(w.heap.size), 1, none⟩ = some (.slice sa L.length sc) := H31.out.c 1 rfl
  have xR2 : (u4.alloc (.cells #[.int .i64 T, .slice a1 16 c1] 27)).cell? ⟨(w.heap.size), 2, none⟩ = some (.int .i64 f) := H31.out.c 2 rfl
  have xR3 : (u4.alloc (.cells #[.int .i64 T, .slice a1 16 c1] 27)).cell? ⟨(w.heap.size), 3, none⟩ = some (.slice va l.length vc) := H31.out.c 3 rfl
  have xR4 : (u4.alloc (.cells #[.int .i64 T, .slice a1 16 c1] 27)).cell? ⟨(w.heap.size), 4, none⟩ = some (.int .i64 dn) := H31.out.c 4 rfl
  have zR : (w.heap.size) < (u4.alloc (.cells #[.int .i64 T, .slice a1 16 c1] 27)).heap.size := H31.out.2.2
  have xO0 : (u4.alloc (.cells #[.int .i64 T, .slice a1 16 c1] 27)).cell? ⟨(w.heap.size + 1), 0, none⟩ = some (.int .i64 a) := H32.out.c 0 rfl
  have xO1 : (u4.alloc (.cells #[.int .i64 T, .slice a1 16 c1] 27)).cell? ⟨(w.heap.size + 1), 1, none⟩ = some (.int .i64 b) := H32.out.c 1 rfl
  have xO2 : (u4.alloc (.cells #[.int .i64 T, .slice a1 16 c1] 27)).cell? ⟨(w.heap.size + 1), 2, none⟩ = some (.int .i64 (cn : Int)) := H32.out.c 2 rfl
  have xO3 : (u4.alloc (.cells #[.int .i64 T, .slice a1 16 c1] 27)).cell? ⟨(w.heap.size + 1), 3, none⟩ = some (.int .i64 d) := H32.out.c 3 rfl
  have zO : (w.heap.size + 1) < (u4.alloc (.cells #[.int .i64 T, .slice a1 16 c1] 27)).heap.size := H32.out.2.2
  have xW70 : (u4.alloc (.cells #[.int .i64 T, .slice a1 16 c1] 27)).cell? ⟨(u4.heap.size), 0, none⟩ = some (.int .i64 T) := H37.out.c 0 rfl
  have xW71 : (u4.alloc (.cells #[.int .i64 T, .slice a1 16 c1] 27)).cell? ⟨(u4.heap.size), 1, none⟩ = some (.slice a1 16 c1) := H37.out.c 1 rfl
  have zW7 : (u4.heap.size) < (u4.alloc (.cells #[.int .i64 T, .slice a1 16 c1] 27)).heap.size := H37.out.2.2
  go_upto_region 12 with fail
  obtain ⟨WE, hWE⟩ : ∃ z, (u4.alloc (.cells #[.int .i64 T, .slice a1 16 c1] 27)) = z := ⟨_, rfl⟩
  rw [hWE] at H31 H32 H33 H34 H35 H37 H36 ⊢
  clear hWE xR0 xR1 xR2 xR3 xR4 zR xO0 xO1 xO2 xO3 zO xW70 xW71 zW7
  obtain ⟨k7, hk7⟩ : ∃ z, (u4.heap.size) = z := ⟨_, rfl⟩
  rw [hk7] at H37 ⊢
  clear hk7
  have HSZ := Lib.hid (show w.heap.size + 1 + 1 < WE.heap.size from H33.out.2.2)
  have HBL := Lib.hid (bos_ltN H35.out (by decide))
  have HBX := Lib.hid H36.out
  obtain ⟨lit, hlit⟩ : ∃ lit : (Nat → Value) → Act, lit = fun vs => { tmps := List.toArray (Value.agg #[Value.int IntKind.i64 t, Value.slice sa L.length sc, Value.int IntKind.i64 f, Value.slice va l.length vc, Value.int IntKind.i64 dn] :: Value.agg #[Value.int IntKind.i64 a, Value.int IntKind.i64 b, Value.int IntKind.i64 (cn : Int), Value.int IntKind.i64 d] :: Value.pointer (some { block := w.heap.size, off := 0 }) :: Value.pointer (some { block := w.heap.size + 1, off := 0 }) :: Value.pointer (some { block := w.heap.size + 1 + 1, off := 0 }) :: Value.bool false :: Value.int IntKind.i64 0 :: Value.pointer (some { block := k7, off := 0 }) :: Value.int IntKind.i64 0 :: vs 11 :: Value.agg #[Value.int IntKind.i64 t, Value.slice sa L.length sc, Value.int IntKind.i64 f, Value.slice va l.length vc, Value.int IntKind.i64 dn] :: Value.bool true :: Value.bool false :: Value.bool false :: Value.agg #[Value.int IntKind.i64 a, Value.int IntKind.i64 b, Value.int IntKind.i64 (cn : Int), Value.int IntKind.i64 d] :: Value.bool true :: Value.bool false :: Value.bool false :: Value.bool false :: Value.pointer (some { block := w.heap.size + 1, off := 2 }) :: Value.int IntKind.i64 (cn : Int) :: Value.pointer (some { block := w.heap.size, off := 3 }) :: Value.slice va l.length vc :: Value.int IntKind.i64 (l.length : Int) :: Value.bool false :: Value.bool false :: undef :: Value.pointer (some { block := w.heap.size + 1, off := 0 }) :: Value.int IntKind.i64 a :: Value.pointer (some { block := w.heap.size, off := 0 }) :: Value.pointer (some { block := w.heap.size, off := 0 }) :: Value.int IntKind.i64 t :: Value.int IntKind.i64 (t - 16) :: Value.bool false :: undef :: Value.agg #[Value.int IntKind.i64 t, Value.slice sa L.length sc, Value.int IntKind.i64 f, Value.slice va l.length vc, Value.int IntKind.i64 dn] :: Value.agg #[Value.int IntKind.i64 a, Value.int IntKind.i64 b, Value.int IntKind.i64 (cn : Int), Value.int IntKind.i64 d] :: Value.bool false :: undef :: Value.pointer (some { block := w.heap.size + 1, off := 1 }) :: Value.int IntKind.i64 b :: Value.pointer (some { block := w.heap.size, off := 2 }) :: Value.int IntKind.i64 f :: Value.bool false :: undef :: Value.tuple #[Value.agg #[Value.int IntKind.i64 T, Value.slice a1 16 c1], Value.int IntKind.i64 0] :: Value.pointer (some { block := w.heap.size, off := 0 }) :: Value.agg #[Value.int IntKind.i64 t, Value.slice sa L.length sc] :: Value.pointer (some { block := w.heap.size + 1, off := 0 }) :: Value.int IntKind.i64 a :: Value.tuple #[Value.agg #[Value.int IntKind.i64 T, Value.slice a1 16 c1], Value.int IntKind.i64 0] :: Value.agg #[Value.int IntKind.i64 T, Value.slice a1 16 c1] :: Value.int IntKind.i64 0 :: Value.int IntKind.i64 0 :: Value.bool false :: undef :: undef :: vs 0 :: vs 1 :: vs 2 :: vs 3 :: vs 4 :: vs 5 :: vs 6 :: vs 7 :: vs 8 :: vs 9 :: vs 10 :: undef :: undef :: undef :: undef :: undef :: undef :: undef :: undef :: []), defers := [] } := ⟨_, rfl⟩
  have HLIT := Lib.hid hlit
  clear hlit
  obtain ⟨val, hval⟩ : ∃ val : List Value, val = [.agg #[.int .i64 T, .slice a1 16 c1], .pointer (some ⟨(w.heap.size + 1), 1, none⟩), .int .i64 b, undef, .pointer (some ⟨(w.heap.size), 3, none⟩), .slice va l.length vc, undef, .pointer (some ⟨(w.heap.size), 4, none⟩), .int .i64 dn, .int .i64 (dn + 1), undef, undef, undef] := ⟨_, rfl⟩
  have E0 := Lib.hid (show val.getD 0 undef = .agg #[.int .i64 T, .slice a1 16 c1] by rw [hval]; rfl)
  have E1 := Lib.hid (show val.getD 1 undef = .pointer (some ⟨(w.heap.size + 1), 1, none⟩) by rw [hval]; rfl)
  have E2 := Lib.hid (show val.getD 2 undef = .int .i64 b by rw [hval]; rfl)
  have E4 := Lib.hid (show val.getD 4 undef = .pointer (some ⟨(w.heap.size), 3, none⟩) by rw [hval]; rfl)
  have E5 := Lib.hid (show val.getD 5 undef = .slice va l.length vc by rw [hval]; rfl)
  have E7 := Lib.hid (show val.getD 7 undef = .pointer (some ⟨(w.heap.size), 4, none⟩) by rw [hval]; rfl)
  have E8 := Lib.hid (show val.getD 8 undef = .int .i64 dn by rw [hval]; rfl)
  have E9 := Lib.hid (show val.getD 9 undef = .int .i64 (dn + 1) by rw [hval]; rfl)
  clear hval
  obtain ⟨G, hG0⟩ : ∃ G : Bool → Nat → Value → World → Prop, G = (fun bq iq vq ww => (iq = 3 → ∃ g8 : Nat, vq = .slice (some ⟨g8, 0, none⟩) 0 0 ∧ (bq = false → ww.ownsRow WE.heap.size 3 1 vq 0 [])) ∧ (iq = 6 → ∃ (a8 : Option Addr) (c8 : Nat), vq = .slice a8 l.length c8 ∧ (bq = false → ww.ownsRow WE.heap.size 3 1 (.slice a8 l.length c8) l.length (l.map (Value.int .i64)))) ∧ (iq = 10 → ∃ (a8 : Option Addr) (c8 : Nat), vq = .agg #[.int .i64 T, .slice a1 16 c1, .int .i64 b, .slice a8 l.length c8, .int .i64 (dn + 1)] ∧ (bq = false → ww.ownsRow WE.heap.size 3 1 (.slice a8 l.length c8) l.length (l.map (Value.int .i64)))) ∧ (iq = 11 → ∃ k9 : Nat, vq = .pointer (some ⟨k9, 0, none⟩) ∧ WE.heap.size ≤ k9 ∧ (bq = false → BoxN ww k9 Go.Proofs.Ytkamkkjijjkfdaa.Z5 30) ∧ (bq = true → ∃ (a8 : Option Addr) (c8 : Nat), Cs ww k9 (AgV T b (dn + 1) a1 c1 a8 l.length c8) ∧ ww.ownsRow WE.heap.size 3 1 (.slice a8 l.length c8) l.length (l.map (Value.int .i64)) ∧ nb a8 k9)) ∧ (iq ≠ 3 → iq ≠ 6 → iq ≠ 10 → iq ≠ 11 → iq ≠ 12 → vq = val.getD iq undef)) := ⟨_, rfl⟩
  have HG := Lib.hid hG0
  clear hG0
  refine region_inv (NS lit 12 (fun p q => (p == 12 && q == 0) || (p == 12 && q == 2) || (p == 12 && q == 3) || (p == 12 && q == 5) || (p == 12 && q == 6) || (p == 12 && q == 8) || (p == 12 && q == 11) || (p == 6 && q == 3) || (p == 6 && q == 5)) G fun bq wv => (bq = false → Below WE.heap.size WE wv) ∧ (bq = true → Below WE.heap.size WE wv)) (by kernel_rfl) (by decide +kernel) ?_ ?_ ?_
  · exact NS.start (fun i => ([undef, undef, undef, undef, undef, undef, undef, undef, undef, undef, undef, undef, undef] : List Value).getD i undef) (by rw [HLIT.out]; rfl) ⟨fun _ => below_drew _ _, fun h => (by cases h)⟩
  · refine ⟨?_, ?_, ?_, ?_, ?_, ?_, ?_, ?_, ?_, ?_, ?_, ?_, ?_, trivial⟩
    · intro bf ac wv hfb haf hJ K' hK
      obtain ⟨vs, rfl, ja, hB, j4⟩ := hJ
      replace hK := Lib.hid hK
      rw [HG.out] at j4
      have hd : bf 12 = false := by
        cases h : bf 12
        · rfl
        · exact absurd ((ja 12 0 rfl h).symm.trans hfb) (by simp)
      have hM := Lib.hid (hB.1 hd)
      replace j4 := Lib.hid (And.intro ja j4)
      replace hB := Lib.hid hB
      clear ja haf
      have xW70 := (H37.out.step hM.out).c 0 rfl
      have xW71 := (H37.out.step hM.out).c 1 rfl
      have xW7z := (H37.out.step hM.out).2.2
      rw [HLIT.out]
      go_simp
      exact hK.out _ _ (NS.next (vs := vs) 0 (by omega) (fun q h => absurd h (by simp)) (x := .agg #[.int .i64 T, .slice a1 16 c1]) (by rw [HLIT.out]; rfl) (by rw [HG.out]; exact j4.out) hB.out (by rw [HG.out]; exact fun _ _ h => h) (by rw [HG.out]; exact ⟨fun h => absurd h (by decide), fun h => absurd h (by decide), fun h => absurd h (by decide), fun h => absurd h (by decide), fun _ _ _ _ _ => E0.out.symm⟩))
    · intro bf ac wv hfb haf hJ K' hK
      obtain ⟨vs, rfl, ja, hB, j4⟩ := hJ
      replace hK := Lib.hid hK
      rw [HG.out] at j4
      replace j4 := Lib.hid (And.intro ja j4)
      replace hB := Lib.hid hB
      clear ja haf
      rw [HLIT.out]
      go_simp
      exact hK.out _ _ (NS.next (vs := vs) 1 (by omega) (fun q h => absurd h (by simp)) (x := .pointer (some ⟨(w.heap.size + 1), 1, none⟩)) (by rw [HLIT.out]; rfl) (by rw [HG.out]; exact j4.out) hB.out (by rw [HG.out]; exact fun _ _ h => h) (by rw [HG.out]; exact ⟨fun h => absurd h (by decide), fun h => absurd h (by decide), fun h => absurd h (by decide), fun h => absurd h (by decide), fun _ _ _ _ _ => E1.out.symm⟩))
    · intro bf ac wv hfb haf hJ K' hK
      obtain ⟨vs, rfl, ja, hB, j4⟩ := hJ
      replace hK := Lib.hid hK
      simp [Region.binds] at haf
      rw [HG.out] at j4
      have e1 := ((j4 1 (by simp [haf])).2.2.2.2 (by decide) (by decide) (by decide) (by decide) (by decide)).trans E1.out
      have hd : bf 12 = false := by
        cases h : bf 12
        · rfl
        · exact absurd ((ja 12 2 rfl h).symm.trans hfb) (by simp)
      have hM := Lib.hid (hB.1 hd)
      replace j4 := Lib.hid (And.intro ja j4)
      replace hB := Lib.hid hB
      clear ja haf
      have xO1 := (H32.out.step hM.out).c 1 rfl
      have xOz := (H32.out.step hM.out).2.2
      rw [HLIT.out]
      go_simp
      exact hK.out _ _ (NS.next (vs := vs) 2 (by omega) (fun q h => absurd h (by simp)) (x := .int .i64 b) (by rw [HLIT.out]; simp only [upv, e1, Nat.reduceBEq, cond_true, cond_false]) (by rw [HG.out]; exact j4.out) hB.out (by rw [HG.out]; exact fun _ _ h => h) (by rw [HG.out]; exact ⟨fun h => absurd h (by decide), fun h => absurd h (by decide), fun h => absurd h (by decide), fun h => absurd h (by decide), fun _ _ _ _ _ => E2.out.symm⟩))
    · intro bf ac wv hfb haf hJ K' hK
      obtain ⟨vs, rfl, ja, hB, j4⟩ := hJ
      replace hK := Lib.hid hK
      rw [HG.out] at j4
      have hd : bf 12 = false := by
        cases h : bf 12
        · rfl
        · exact absurd ((ja 12 3 rfl h).symm.trans hfb) (by simp)
      have hM := Lib.hid (hB.1 hd)
      replace j4 := Lib.hid (And.intro ja j4)
      replace hB := Lib.hid hB
      clear ja haf
      rw [HLIT.out]
      go_simp
      have b4 := al wv (.cells #[] 3)
      exact hK.out _ _ (NS.next (vs := vs) 3 (by omega) (fun q h => absurd h (by simp)) (x := (.slice (some ⟨wv.heap.size, 0, none⟩) 0 0)) (by rw [HLIT.out]; rfl) (by rw [HG.out]; exact j4.out) ⟨fun _ => keep2 b4 hM.out, fun e => absurd (e.symm.trans hd) (by simp)⟩ (by rw [HG.out]; exact fun k hbk h => ⟨fun q => (by obtain ⟨g8, q1, q2⟩ := (h.1 q); exact ⟨g8, q1, fun e => row_step (q2 e) b4⟩), fun q => (by obtain ⟨a8, c8, q1, q2⟩ := (h.2.1 q); exact ⟨a8, c8, q1, fun e => row_step (q2 e) b4⟩), fun q => (by obtain ⟨a8, c8, q1, q2⟩ := (h.2.2.1 q); exact ⟨a8, c8, q1, fun e => row_step (q2 e) b4⟩), fun q => (by obtain ⟨k9, q1, q2, q3, -⟩ := (h.2.2.2.1 q); exact ⟨k9, q1, q2, fun e => (q3 e).step b4, fun e => absurd (e.symm.trans hd) (by simp)⟩), h.2.2.2.2⟩) (by rw [HG.out]; exact ⟨fun _ => ⟨wv.heap.size, rfl, fun _ => ⟨rfl, .inr ⟨wv.heap.size, 0, _, rfl, hM.out.size, heap_alloc_new _ _, by omega, by unfold maxLen; omega, rfl, rfl⟩⟩⟩, fun h => absurd h (by decide), fun h => absurd h (by decide), fun h => absurd h (by decide), fun h3 => absurd rfl h3⟩))
    · intro bf ac wv hfb haf hJ K' hK
      obtain ⟨vs, rfl, ja, hB, j4⟩ := hJ
      replace hK := Lib.hid hK
      rw [HG.out] at j4
      replace j4 := Lib.hid (And.intro ja j4)
      replace hB := Lib.hid hB
      clear ja haf
      rw [HLIT.out]
      go_simp
      exact hK.out _ _ (NS.next (vs := vs) 4 (by omega) (fun q h => absurd h (by simp)) (x := .pointer (some ⟨(w.heap.size), 3, none⟩)) (by rw [HLIT.out]; rfl) (by rw [HG.out]; exact j4.out) hB.out (by rw [HG.out]; exact fun _ _ h => h) (by rw [HG.out]; exact ⟨fun h => absurd h (by decide), fun h => absurd h (by decide), fun h => absurd h (by decide), fun h => absurd h (by decide), fun _ _ _ _ _ => E4.out.symm⟩))
    · intro bf ac wv hfb haf hJ K' hK
      obtain ⟨vs, rfl, ja, hB, j4⟩ := hJ
      replace hK := Lib.hid hK
      simp [Region.binds] at haf
      rw [HG.out] at j4
      have e4 := ((j4 4 (by simp [haf])).2.2.2.2 (by decide) (by decide) (by decide) (by decide) (by decide)).trans E4.out
      have hd : bf 12 = false := by
        cases h : bf 12
        · rfl
        · exact absurd ((ja 12 5 rfl h).symm.trans hfb) (by simp)
      have hM := Lib.hid (hB.1 hd)
      replace j4 := Lib.hid (And.intro ja j4)
      replace hB := Lib.hid hB
      clear ja haf
      have xR3 := (H31.out.step hM.out).c 3 rfl
      have xRz := (H31.out.step hM.out).2.2
      rw [HLIT.out]
      go_simp
      exact hK.out _ _ (NS.next (vs := vs) 5 (by omega) (fun q h => absurd h (by simp)) (x := .slice va l.length vc) (by rw [HLIT.out]; simp only [upv, e4, Nat.reduceBEq, cond_true, cond_false]) (by rw [HG.out]; exact j4.out) hB.out (by rw [HG.out]; exact fun _ _ h => h) (by rw [HG.out]; exact ⟨fun h => absurd h (by decide), fun h => absurd h (by decide), fun h => absurd h (by decide), fun h => absurd h (by decide), fun _ _ _ _ _ => E5.out.symm⟩))
    · intro bf ac wv hfb haf hJ K' hK
      obtain ⟨vs, rfl, ja, hB, j4⟩ := hJ
      replace hK := Lib.hid hK
      simp [Region.binds] at haf
      rw [HG.out] at j4
      have e3 := (j4 3 (by simp [haf])).1 rfl
      have e5 := ((j4 5 (by simp [haf])).2.2.2.2 (by decide) (by decide) (by decide) (by decide) (by decide)).trans E5.out
      have hd : bf 12 = false := by
        cases h : bf 12
        · rfl
        · exact absurd ((ja 12 6 rfl h).symm.trans hfb) (by simp)
      have hM := Lib.hid (hB.1 hd)
      have HA := Lib.hid (show ∀ q, (fun p q => (p == 12 && q == 0) || (p == 12 && q == 2) || (p == 12 && q == 3) || (p == 12 && q == 5) || (p == 12 && q == 6) || (p == 12 && q == 8) || (p == 12 && q == 11) || (p == 6 && q == 3) || (p == 6 && q == 5)) 6 q = true → bf q = true from fun q hi => by
        obtain rfl | rfl : q = 3 ∨ q = 5 := by simpa [or_assoc] using hi
        all_goals simp [haf])
      replace j4 := Lib.hid (And.intro ja j4)
      replace hB := Lib.hid hB
      clear ja haf
      obtain ⟨g3, e3, hr3⟩ := e3
      replace hr3 := hr3 hd
      rw [e3] at hr3
      obtain ⟨a6, c6, w6, hr6, b4, ho6⟩ := app_ints (HV.out.step (keep2 hM.out HBX.out)) hr3 H9.out hM.out.size
      rw [HLIT.out]
      refine step_app rfl _ _ 28 rfl _ _ _ e3 e5 hr6 ?_
      exact hK.out _ _ (NS.next (vs := vs) 6 (by omega) (HA.out) (x := (.slice a6 l.length c6)) (by rw [HLIT.out]; rfl) (by rw [HG.out]; exact j4.out) ⟨fun _ => keep2 b4 hM.out, fun e => absurd (e.symm.trans hd) (by simp)⟩ (by rw [HG.out]; exact fun k hbk h => ⟨fun q => (by obtain ⟨g8, q1, q2⟩ := (h.1 q); exact ⟨g8, q1, fun e => row_step (q2 e) b4⟩), fun q => (by obtain ⟨a8, c8, q1, q2⟩ := (h.2.1 q); exact ⟨a8, c8, q1, fun e => row_step (q2 e) b4⟩), fun q => (by obtain ⟨a8, c8, q1, q2⟩ := (h.2.2.1 q); exact ⟨a8, c8, q1, fun e => row_step (q2 e) b4⟩), fun q => (by obtain ⟨k9, q1, q2, q3, -⟩ := (h.2.2.2.1 q); exact ⟨k9, q1, q2, fun e => (q3 e).step b4, fun e => absurd (e.symm.trans hd) (by simp)⟩), h.2.2.2.2⟩) (by rw [HG.out]; exact ⟨fun h => absurd h (by decide), fun _ => ⟨a6, c6, rfl, fun _ => ho6⟩, fun h => absurd h (by decide), fun h => absurd h (by decide), fun h3 h6 => absurd rfl h6⟩))
    · intro bf ac wv hfb haf hJ K' hK
      obtain ⟨vs, rfl, ja, hB, j4⟩ := hJ
      replace hK := Lib.hid hK
      rw [HG.out] at j4
      replace j4 := Lib.hid (And.intro ja j4)
      replace hB := Lib.hid hB
      clear ja haf
      rw [HLIT.out]
      go_simp
      exact hK.out _ _ (NS.next (vs := vs) 7 (by omega) (fun q h => absurd h (by simp)) (x := .pointer (some ⟨(w.heap.size), 4, none⟩)) (by rw [HLIT.out]; rfl) (by rw [HG.out]; exact j4.out) hB.out (by rw [HG.out]; exact fun _ _ h => h) (by rw [HG.out]; exact ⟨fun h => absurd h (by decide), fun h => absurd h (by decide), fun h => absurd h (by decide), fun h => absurd h (by decide), fun _ _ _ _ _ => E7.out.symm⟩))
    · intro bf ac wv hfb haf hJ K' hK
      obtain ⟨vs, rfl, ja, hB, j4⟩ := hJ
      replace hK := Lib.hid hK
      simp [Region.binds] at haf
      rw [HG.out] at j4
      have e7 := ((j4 7 (by simp [haf])).2.2.2.2 (by decide) (by decide) (by decide) (by decide) (by decide)).trans E7.out
      have hd : bf 12 = false := by
        cases h : bf 12
        · rfl
        · exact absurd ((ja 12 8 rfl h).symm.trans hfb) (by simp)
      have hM := Lib.hid (hB.1 hd)
      replace j4 := Lib.hid (And.intro ja j4)
      replace hB := Lib.hid hB
      clear ja haf
      have xR4 := (H31.out.step hM.out).c 4 rfl
      have xRz := (H31.out.step hM.out).2.2
      rw [HLIT.out]
      go_simp
      exact hK.out _ _ (NS.next (vs := vs) 8 (by omega) (fun q h => absurd h (by simp)) (x := .int .i64 dn) (by rw [HLIT.out]; simp only [upv, e7, Nat.reduceBEq, cond_true, cond_false]) (by rw [HG.out]; exact j4.out) hB.out (by rw [HG.out]; exact fun _ _ h => h) (by rw [HG.out]; exact ⟨fun h => absurd h (by decide), fun h => absurd h (by decide), fun h => absurd h (by decide), fun h => absurd h (by decide), fun _ _ _ _ _ => E8.out.symm⟩))
    · intro bf ac wv hfb haf hJ K' hK
      obtain ⟨vs, rfl, ja, hB, j4⟩ := hJ
      replace hK := Lib.hid hK
      simp [Region.binds] at haf
      rw [HG.out] at j4
      have e8 := ((j4 8 (by simp [haf])).2.2.2.2 (by decide) (by decide) (by decide) (by decide) (by decide)).trans E8.out
      replace j4 := Lib.hid (And.intro ja j4)
      replace hB := Lib.hid hB
      clear ja haf
      rw [HLIT.out]
      go_simp
      exact hK.out _ _ (NS.next (vs := vs) 9 (by omega) (fun q h => absurd h (by simp)) (x := .int .i64 (dn + 1)) (by rw [HLIT.out]; simp only [upv, e8, HDN.out, Nat.reduceBEq, cond_true, cond_false]) (by rw [HG.out]; exact j4.out) hB.out (by rw [HG.out]; exact fun _ _ h => h) (by rw [HG.out]; exact ⟨fun h => absurd h (by decide), fun h => absurd h (by decide), fun h => absurd h (by decide), fun h => absurd h (by decide), fun _ _ _ _ _ => E9.out.symm⟩))
    · intro bf ac wv hfb haf hJ K' hK
      obtain ⟨vs, rfl, ja, hB, j4⟩ := hJ
      replace hK := Lib.hid hK
      simp [Region.binds] at haf
      rw [HG.out] at j4
      have e0 := ((j4 0 (by simp [haf])).2.2.2.2 (by decide) (by decide) (by decide) (by decide) (by decide)).trans E0.out
      have e2 := ((j4 2 (by simp [haf])).2.2.2.2 (by decide) (by decide) (by decide) (by decide) (by decide)).trans E2.out
      have e6 := (j4 6 (by simp [haf])).2.1 rfl
      have e9 := ((j4 9 (by simp [haf])).2.2.2.2 (by decide) (by decide) (by decide) (by decide) (by decide)).trans E9.out
      replace j4 := Lib.hid (And.intro ja j4)
      replace hB := Lib.hid hB
      clear ja haf
      obtain ⟨a8, c8, e6, h6⟩ := e6
      rw [HLIT.out]
      go_simp
      exact hK.out _ _ (NS.next (vs := vs) 10 (by omega) (fun q h => absurd h (by simp)) (x := (.agg #[.int .i64 T, .slice a1 16 c1, .int .i64 b, .slice a8 l.length c8, .int .i64 (dn + 1)])) (by rw [HLIT.out]; simp only [upv, e0, e2, e6, e9, Nat.reduceBEq, cond_true, cond_false]) (by rw [HG.out]; exact j4.out) hB.out (by rw [HG.out]; exact fun _ _ h => h) (by rw [HG.out]; exact ⟨fun h => absurd h (by decide), fun h => absurd h (by decide), fun _ => ⟨a8, c8, rfl, h6⟩, fun h => absurd h (by decide), fun h3 h6 h10 => absurd rfl h10⟩))
    · intro bf ac wv hfb haf hJ K' hK
      obtain ⟨vs, rfl, ja, hB, j4⟩ := hJ
      replace hK := Lib.hid hK
      rw [HG.out] at j4
      have hd : bf 12 = false := by
        cases h : bf 12
        · rfl
        · exact absurd ((ja 12 11 rfl h).symm.trans hfb) (by simp)
      have hM := Lib.hid (hB.1 hd)
      replace j4 := Lib.hid (And.intro ja j4)
      replace hB := Lib.hid hB
      clear ja haf
      rw [HLIT.out]
      go_simp
      have b4 := al wv (.cells Go.Proofs.Ytkamkkjijjkfdaa.Z5 30)
      exact hK.out _ _ (NS.next (vs := vs) 11 (by omega) (fun q h => absurd h (by simp)) (x := (.pointer (some ⟨wv.heap.size, 0, none⟩))) (by rw [HLIT.out]; rfl) (by rw [HG.out]; exact j4.out) ⟨fun _ => keep2 b4 hM.out, fun e => absurd (e.symm.trans hd) (by simp)⟩ (by rw [HG.out]; exact fun k hbk h => ⟨fun q => (by obtain ⟨g8, q1, q2⟩ := (h.1 q); exact ⟨g8, q1, fun e => row_step (q2 e) b4⟩), fun q => (by obtain ⟨a8, c8, q1, q2⟩ := (h.2.1 q); exact ⟨a8, c8, q1, fun e => row_step (q2 e) b4⟩), fun q => (by obtain ⟨a8, c8, q1, q2⟩ := (h.2.2.1 q); exact ⟨a8, c8, q1, fun e => row_step (q2 e) b4⟩), fun q => (by obtain ⟨k9, q1, q2, q3, -⟩ := (h.2.2.2.1 q); exact ⟨k9, q1, q2, fun e => (q3 e).step b4, fun e => absurd (e.symm.trans hd) (by simp)⟩), h.2.2.2.2⟩) (by rw [HG.out]; exact ⟨fun h => absurd h (by decide), fun h => absurd h (by decide), fun h => absurd h (by decide), fun _ => ⟨wv.heap.size, rfl, hM.out.size, fun _ => BoxN.new wv Go.Proofs.Ytkamkkjijjkfdaa.Z5 30, fun e => absurd (e.symm.trans hd) (by simp)⟩, fun h3 h6 h10 h11 => absurd rfl h11⟩))
    · intro bf ac wv hfb haf hJ K' hK
      obtain ⟨vs, rfl, ja, hB, j4⟩ := hJ
      replace hK := Lib.hid hK
      simp [Region.binds] at haf
      rw [HG.out] at j4
      have e10 := (j4 10 (by simp [haf])).2.2.1 rfl
      have e11 := (j4 11 (by simp [haf])).2.2.2.1 rfl
      rw [hfb] at j4 hB
      try rw [hfb] at e10
      try rw [hfb] at e11
      have HA := Lib.hid (show ∀ q, (fun p q => (p == 12 && q == 0) || (p == 12 && q == 2) || (p == 12 && q == 3) || (p == 12 && q == 5) || (p == 12 && q == 6) || (p == 12 && q == 8) || (p == 12 && q == 11) || (p == 6 && q == 3) || (p == 6 && q == 5)) 12 q = true → bf q = true from fun q hi => by
        obtain rfl | rfl | rfl | rfl | rfl | rfl | rfl : q = 0 ∨ q = 2 ∨ q = 3 ∨ q = 5 ∨ q = 6 ∨ q = 8 ∨ q = 11 := by simpa [or_assoc] using hi
        all_goals simp [haf])
      have hM := Lib.hid (hB.1 rfl)
      replace j4 := Lib.hid j4
      have HE := Lib.hid (And.intro ja HA.out)
      clear ja haf hB HA
      obtain ⟨k9, e11, hk9, hz9, -⟩ := e11
      replace hz9 := hz9 rfl
      obtain ⟨a8, c8, e10, h10⟩ := e10
      replace h10 := Lib.hid (h10 rfl)
      replace hk9 := Lib.hid hk9
      have HNB := Lib.hid (row_box hz9 h10.out)
      have HZC := Lib.hid (Cs.of_heap hz9)
      clear hz9
      have x0 := HZC.out.c 0 rfl
      have y0 := HZC.out.f 0 (by simp [Go.Proofs.Ytkamkkjijjkfdaa.Z5])
      have x1 := HZC.out.c 1 rfl
      have y1 := HZC.out.f 1 (by simp [Go.Proofs.Ytkamkkjijjkfdaa.Z5])
      have x2 := HZC.out.c 2 rfl
      have y2 := HZC.out.f 2 (by simp [Go.Proofs.Ytkamkkjijjkfdaa.Z5])
      have x3 := HZC.out.c 3 rfl
      have y3 := HZC.out.f 3 (by simp [Go.Proofs.Ytkamkkjijjkfdaa.Z5])
      have x4 := HZC.out.c 4 rfl
      have y4 := HZC.out.f 4 (by simp [Go.Proofs.Ytkamkkjijjkfdaa.Z5])
      have xz := HZC.out.2.2
      rw [HLIT.out]
      go_simp
      have hgs := grown_trans (grown_trans (grown_trans (grown_trans (grown_set wv k9 0 (.int .i64 T)) (grown_set _ k9 1 (.slice a1 16 c1))) (grown_set _ k9 2 (.int .i64 b))) (grown_set _ k9 3 (.slice a8 l.length c8))) (grown_set _ k9 4 (.int .i64 (dn + 1)))
      have hcs : Cs (((((wv.setCell ⟨k9, 0, none⟩ (.int .i64 T)).setCell ⟨k9, 1, none⟩ (.slice a1 16 c1)).setCell ⟨k9, 2, none⟩ (.int .i64 b)).setCell ⟨k9, 3, none⟩ (.slice a8 l.length c8)).setCell ⟨k9, 4, none⟩ (.int .i64 (dn + 1))) k9 (AgV T b (dn + 1) a1 c1 a8 l.length c8) := Cs.set (Cs.set (Cs.set (Cs.set (Cs.set (HZC.out) 0 (by simp [Go.Proofs.Ytkamkkjijjkfdaa.Z5]) (.int .i64 T) rfl) 1 (by simp [Go.Proofs.Ytkamkkjijjkfdaa.Z5]) (.slice a1 16 c1) rfl) 2 (by simp [Go.Proofs.Ytkamkkjijjkfdaa.Z5]) (.int .i64 b) rfl) 3 (by simp [Go.Proofs.Ytkamkkjijjkfdaa.Z5]) (.slice a8 l.length c8) rfl) 4 (by simp [Go.Proofs.Ytkamkkjijjkfdaa.Z5]) (.int .i64 (dn + 1)) rfl
      have hrow := row_kept h10.out hgs (nb_some HNB.out)
      exact hK.out _ _ (NS.put (vs := vs) (by rw [HLIT.out]; simp only [e10, e11]) HE.out ⟨fun e => (by cases e), fun _ => (((((hM.out).setCell (p := ⟨k9, 0, none⟩) hk9.out _).setCell (p := ⟨k9, 1, none⟩) hk9.out _).setCell (p := ⟨k9, 2, none⟩) hk9.out _).setCell (p := ⟨k9, 3, none⟩) hk9.out _).setCell (p := ⟨k9, 4, none⟩) hk9.out _⟩ (fun j hj hb => by
        rw [HG.out]
        have q := j4.out j hb
        refine ⟨fun h => ?_, fun h => ?_, fun h => ?_, fun h => ?_, q.2.2.2.2⟩
        · obtain ⟨g8, q1, -⟩ := q.1 h
          exact ⟨g8, q1, fun e => (by cases e)⟩
        · obtain ⟨a8, c8, q1, -⟩ := q.2.1 h
          exact ⟨a8, c8, q1, fun e => (by cases e)⟩
        · obtain ⟨a8, c8, q1, -⟩ := q.2.2.1 h
          exact ⟨a8, c8, q1, fun e => (by cases e)⟩
        · subst h
          exact ⟨k9, e11, hk9.out, fun e => (by cases e), fun _ => ⟨a8, c8, hcs, hrow, HNB.out⟩⟩) (fun v => by rw [HG.out]; exact ⟨fun h => absurd h (by decide), fun h => absurd h (by decide), fun h => absurd h (by decide), fun h => absurd h (by decide), fun h3 h6 h10 h11 h12 => absurd rfl h12⟩))
  · intro bf ac wv hall hJ
    obtain ⟨vs, rfl, -, hB, j4⟩ := hJ
    rw [HG.out] at j4
    rw [hall 12 (by decide)] at hB j4
    have hM := Lib.hid (hB.2 rfl)
    clear hB
    obtain ⟨k9, e11, hk9, -, hp9⟩ := (j4 11 (hall 11 (by decide))).2.2.2.1 rfl
    obtain ⟨a8, c8, hc9, hr9, hn9⟩ := hp9 (by simp)
    have HK9 := Lib.hid hk9
    have HC9 := Lib.hid (show Cs wv k9 #[.int .i64 T, .slice a1 16 c1, .int .i64 b, .slice a8 l.length c8, .int .i64 (dn + 1)] from hc9)
    clear j4 hall hk9 hp9 hc9
    rw [HLIT.out]
    dsimp only
    rw [e11]
    clear e11 HLIT HG
    generalize vs = us12
    obtain ⟨g8, rfl⟩ : ∃ g, a8 = some ⟨g, 0, none⟩ := by
      rcases hr9.2 with ⟨-, h0⟩ | ⟨g, cp, cur, e, -⟩
      · have h1 := HCL.out; omega
      · simp at e; exact ⟨g, e.1⟩
    have HRW := Lib.hid hr9
    have hgk := hn9 g8 0 rfl
    have hge := row_adrD hr9 g8 0 rfl
    clear hr9 hn9
    have H38 := Lib.hid (H31.out.step hM.out)
    clear H31
    have H39 := Lib.hid (H32.out.step hM.out)
    clear H32
    have H40 := Lib.hid (H33.out.step hM.out)
    clear H33
    have H41 := Lib.hid (H34.out.step hM.out)
    clear H34
    have H42 := Lib.hid (H35.out.step hM.out)
    clear H35
    have H43 := Lib.hid (H37.out.step hM.out)
    clear H37
    have H44 := Lib.hid (keep2 hM.out H36.out)
    clear H36
    clear hM
    have HSI := Lib.hid (ints_set (y := d) HRW.out HCL.out)
    obtain ⟨hs1, hs2⟩ := row_some HRW.out (j := cn) (by have h1 := HCL.out; have h2 := row_capD HRW.out; omega)
    obtain ⟨xv, hs3⟩ := Option.isSome_iff_exists.1 hs1
    clear hs1
    have hs4 : g8 < wv.heap.size := World.block_lt_of_cell? _ _ hs3
    have hcl2 : (cn : Int) < (l.length : Int) := by have := HCL.out; omega
    have HGK := Lib.hid hgk
    have HGE := Lib.hid hge
    clear hgk hge
    have xq0 := HC9.out.c 3 rfl
    have xqz := HC9.out.2.2
    have xO0 : wv.cell? ⟨(w.heap.size + 1), 0, none⟩ = some (.int .i64 a) := H39.out.c 0 rfl
    have xO1 : wv.cell? ⟨(w.heap.size + 1), 1, none⟩ = some (.int .i64 b) := H39.out.c 1 rfl
    have xO2 : wv.cell? ⟨(w.heap.size + 1), 2, none⟩ = some (.int .i64 (cn : Int)) := H39.out.c 2 rfl
    have xO3 : wv.cell? ⟨(w.heap.size + 1), 3, none⟩ = some (.int .i64 d) := H39.out.c 3 rfl
    have zO : (w.heap.size + 1) < wv.heap.size := H39.out.2.2
    go_upto_region 14 with fail
    have HC10 := Lib.hid (show Cs (wv.setCell ⟨g8, cn, none⟩ (.int .i64 d)) k9 #[.int .i64 T, .slice a1 16 c1, .int .i64 b, .slice (some (⟨g8, 0, none⟩ : Addr)) l.length c8, .int .i64 (dn + 1)] from cs_oth HC9.out (Ne.symm HGK.out))
    have HZB2 := Lib.hid (show BoxN (wv.setCell ⟨g8, cn, none⟩ (.int .i64 d)) (w.heap.size + 1 + 1) Go.Proofs.Ytkamkkjijjkfdaa.Z5 30 from (Below.heap_setCell wv ⟨g8, cn, none⟩ (.int .i64 d) (w.heap.size + 1 + 1) (show (w.heap.size + 1 + 1) ≠ g8 by have h1 := HGE.out; have h2 := HSZ.out; omega)).trans H41.out)
    have HB12 := Lib.hid (show BosAt (wv.setCell ⟨g8, cn, none⟩ (.int .i64 d)) (.slice a1 16 c1) A from bos_kept H42.out (grown_set wv g8 cn (.int .i64 d)) (nb_some (fun g o q => by have h1 := HBL.out g o q; have h2 := HGE.out; omega)))
    have HBW := Lib.hid (show Below w.heap.size w (wv.setCell ⟨g8, cn, none⟩ (.int .i64 d)) from H44.out.setCell (p := ⟨g8, cn, none⟩) (show w.heap.size ≤ g8 by have h1 := HGE.out; have h2 := HBX.out.size; omega) _)
    obtain ⟨WF9, hWF⟩ : ∃ z, (wv.setCell ⟨g8, cn, none⟩ (.int .i64 d)) = z := ⟨_, rfl⟩
    rw [hWF] at HC10 HZB2 HB12 HBW HSI ⊢
    clear hWF hs2 hs3 hs4 xq0 xqz xO0 xO1 xO2 xO3 zO
    have HZC := Lib.hid (Cs.of_heap HZB2.out)
    have xq0 := HC10.out.c 0 rfl
    have xr0 := HZC.out.c 0 rfl
    have yr0 := HZC.out.f 0 (by simp [Go.Proofs.Ytkamkkjijjkfdaa.Z5])
    have xq1 := HC10.out.c 1 rfl
    have xr1 := HZC.out.c 1 rfl
    have yr1 := HZC.out.f 1 (by simp [Go.Proofs.Ytkamkkjijjkfdaa.Z5])
    have xq2 := HC10.out.c 2 rfl
    have xr2 := HZC.out.c 2 rfl
    have yr2 := HZC.out.f 2 (by simp [Go.Proofs.Ytkamkkjijjkfdaa.Z5])
    have xq3 := HC10.out.c 3 rfl
    have xr3 := HZC.out.c 3 rfl
    have yr3 := HZC.out.f 3 (by simp [Go.Proofs.Ytkamkkjijjkfdaa.Z5])
    have xq4 := HC10.out.c 4 rfl
    have xr4 := HZC.out.c 4 rfl
    have yr4 := HZC.out.f 4 (by simp [Go.Proofs.Ytkamkkjijjkfdaa.Z5])
    have xqz := HC10.out.2.2
    have xrz := HZC.out.2.2
    go_wp2_with fail
    have HGR := Lib.hid (grown_trans (grown_trans (grown_trans (grown_trans (grown_set WF9 (w.heap.size + 1 + 1) 0 (.int .i64 T)) (grown_set _ (w.heap.size + 1 + 1) 1 (.slice a1 16 c1))) (grown_set _ (w.heap.size + 1 + 1) 2 (.int .i64 b))) (grown_set _ (w.heap.size + 1 + 1) 3 (.slice (some (⟨g8, 0, none⟩ : Addr)) l.length c8))) (grown_set _ (w.heap.size + 1 + 1) 4 (.int .i64 (dn + 1))))
    have HNZ := Lib.hid (show nb (some (⟨g8, 0, none⟩ : Addr)) (w.heap.size + 1 + 1) from fun g o q => by
      cases q
      have h1 := HGE.out
      have h2 := HSZ.out
      omega)
    refine (fun (h : ∀ V : World, Cs V (w.heap.size + 1 + 1) #[.int .i64 T, .slice a1 16 c1, .int .i64 b, .slice (some (⟨g8, 0, none⟩ : Addr)) l.length c8, .int .i64 (dn + 1)] → BosAt V (.slice a1 16 c1) A → IntsAt V (.slice (some (⟨g8, 0, none⟩ : Addr)) l.length c8) (l.set cn d) → Below w.heap.size w V → bodyPost Try.prog Try.f14 _ Exit.ret _ V) => h _ (Cs.set (Cs.set (Cs.set (Cs.set (Cs.set (HZC.out) 0 (by simp [Go.Proofs.Ytkamkkjijjkfdaa.Z5]) (.int .i64 T) rfl) 1 (by simp [Go.Proofs.Ytkamkkjijjkfdaa.Z5]) (.slice a1 16 c1) rfl) 2 (by simp [Go.Proofs.Ytkamkkjijjkfdaa.Z5]) (.int .i64 b) rfl) 3 (by simp [Go.Proofs.Ytkamkkjijjkfdaa.Z5]) (.slice (some (⟨g8, 0, none⟩ : Addr)) l.length c8) rfl) 4 (by simp [Go.Proofs.Ytkamkkjijjkfdaa.Z5]) (.int .i64 (dn + 1)) rfl) (bos_kept HB12.out HGR.out (nb_some (box_bos HZB2.out HB12.out))) (ints_kept HSI.out HGR.out (nb_some HNZ.out)) ((((((HBW.out).setCell (p := ⟨(w.heap.size + 1 + 1), 0, none⟩) (show w.heap.size ≤ (w.heap.size + 1 + 1) by omega) _).setCell (p := ⟨(w.heap.size + 1 + 1), 1, none⟩) (show w.heap.size ≤ (w.heap.size + 1 + 1) by omega) _).setCell (p := ⟨(w.heap.size + 1 + 1), 2, none⟩) (show w.heap.size ≤ (w.heap.size + 1 + 1) by omega) _).setCell (p := ⟨(w.heap.size + 1 + 1), 3, none⟩) (show w.heap.size ≤ (w.heap.size + 1 + 1) by omega) _).setCell (p := ⟨(w.heap.size + 1 + 1), 4, none⟩) (show w.heap.size ≤ (w.heap.size + 1 + 1) by omega) _)) ?_
    intro V hC hB hI hW
    have k0 : V.cell? ⟨(w.heap.size + 1 + 1), 0, none⟩ = some (.int .i64 T) := hC.c 0 rfl
    have k1 : V.cell? ⟨(w.heap.size + 1 + 1), 1, none⟩ = some (.slice a1 16 c1) := hC.c 1 rfl
    have k2 : V.cell? ⟨(w.heap.size + 1 + 1), 2, none⟩ = some (.int .i64 b) := hC.c 2 rfl
    have k3 : V.cell? ⟨(w.heap.size + 1 + 1), 3, none⟩ = some (.slice (some (⟨g8, 0, none⟩ : Addr)) l.length c8) := hC.c 3 rfl
    have k4 : V.cell? ⟨(w.heap.size + 1 + 1), 4, none⟩ = some (.int .i64 (dn + 1)) := hC.c 4 rfl
    have hA16 : A.length = 16 := bos_len hB
    refine bodyPost_ret (v := .tuple #[.agg #[.int .i64 T, .slice a1 16 c1, .int .i64 b, .slice (some (⟨g8, 0, none⟩ : Addr)) l.length c8, .int .i64 (dn + 1)], .bool true, .int .i64 0]) (by simp [results, Try.results14, go_sem, k0, k1, k2, k3, k4]) rfl ⟨c1, c8, a1, some ⟨g8, 0, none⟩, by rw [hA16], by rw [hA16]; exact HC1.out, by rw [hA16]; exact hB, hI, hW⟩
end Go.Proofs.Ytkamkkjijjkfdaa
