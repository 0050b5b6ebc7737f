/- Delivery, the reference: 'Send'. -/
import Derived.Test.YtkamkkjijjkfdaaHn
import Derived.Test.YtkamkkjijjkfdaaDz
import Derived.BigQuiet
import Derived.Deep.CutRange
namespace Go.Proofs.Ytkamkkjijjkfdaa
open Go.RowKit

/-- A list of orders is appended to an empty row of one's own. -/
theorem app_list {w : World} {base g sc : Nat} {sa : Option Addr} {L : List Od} (h : OdsAt w (.slice sa L.length sc) L) (hr : w.ownsRow base 32 4 (.slice (some ⟨g, 0, none⟩) 0 0) 0 []) (h9 : L.length ≤ 100000) (hl : base ≤ w.heap.size) :
    ∃ (a : Option Addr) (c : Nat) (w' : World), (Builtin.append_ #[22, 22] 22 #[.slice (some ⟨g, 0, none⟩) 0 0, .slice sa L.length sc]).run Try.prog w = .ok (.slice a L.length c) w' ∧ Below w.heap.size w w' ∧ w'.ownsRow base 32 4 (.slice a L.length c) L.length (ocs L) := by
  obtain ⟨i0, hi, hz0, hz1, hz2⟩ := info_parts od_info
  have h2 := h
  obtain ⟨a, cap, hv, -, hm, hc⟩ := h2
  obtain ⟨rfl, rfl⟩ : sa = a ∧ sc = cap := by simpa using hv
  by_cases hL : L = []
  · subst hL
    refine ⟨some ⟨g, 0, none⟩, 0, w, ?_, Below.refl _ _, hr⟩
    cases sa <;> simp [Builtin.append_, run_underlying Try.underlying22, sizeOf, typeInfo, hi, Builtin.lenOf, Builtin.firstCells, storeCells, loadCells, loadCellsFrom]
  · obtain ⟨b1, o1, rfl, -⟩ := hc hL
    have hpos : 0 < L.length := List.length_pos_iff.2 hL
    have hlen : ∀ l : List Od, (ocs l).length = l.length * 4 := by
      intro l
      induction l with
      | nil => rfl
      | cons x l ih => show (x.cells ++ ocs l).length = _; rw [List.length_append, ih]; simp [Od.cells]; omega
    obtain ⟨v', w', q1, q2, q3, -, -⟩ := run_append_own_at (P := Try.prog) w base 22 22 32 i0 _ 4 32 Try.underlying22 hi hz0 hz1 hz2 rfl (by decide) _ 0 [] hr ⟨b1, o1, none⟩ L.length sc (ocs L) (hlen L) (od_cells h _ rfl) (ocs_one' L) (by unfold maxLen; omega) (by omega) hl
    have q4 := run_append_grow (P := Try.prog) (w := w) 22 22 32 i0 _ Try.underlying22 hi hz0 ⟨g, 0, none⟩ 0 0 [] (by simp) (fun j v hj => by simp at hj) ⟨b1, o1, none⟩ L.length sc (ocs L) (by rw [hz1]; exact hlen L) (od_cells h _ rfl) (by omega) (by omega) (by rw [Nat.zero_add, nextslicecap_zero hpos, hz2]; omega)
    rw [q1] at q4
    obtain ⟨e1, e2⟩ : v' = _ ∧ w' = _ := by simpa using q4
    have q2' : w'.ownsRow base 32 4 v' L.length (ocs L) := by simpa using q2
    obtain ⟨a', c', e3⟩ := row_slice q2'
    rw [e3] at q1 q2'
    exact ⟨a', c', w', q1, by rw [e2]; exact (below_drew w.heap.size w).alloc (Nat.le_refl _) _, q2'⟩
/-- A box of one order is no empty list: an append to that one spares it. -/
theorem box_grown {w w' : World} {k g base : Nat} {vs : Array Value} {t : TypeId} (h : BoxN w k vs t) (hg : w.grownBy w' (some g)) (hr : w.ownsRow base 32 4 (.slice (some ⟨g, 0, none⟩) 0 0) 0 []) (hs : vs.size ≠ 0) : BoxN w' k vs t := by
  refine (hg.block k h.lt ?_).trans h
  intro e
  obtain rfl : k = g := by simpa using e
  obtain ⟨g', cap, cur, e1, -, h2, h3, h4, h5, -⟩ := hr.2.resolve_left (fun q => by cases q.1)
  obtain ⟨rfl, -, rfl⟩ : k = g' ∧ 0 = 0 ∧ 0 = cap := by simpa using e1
  have h' : w.heap[k]? = some (.cells vs t (0, 0)) := h
  rw [h'] at h2
  cases h2
  exact hs (by simpa using h5)
set_option maxRecDepth 100000 in
set_option maxHeartbeats 8000000 in
theorem rsend_no (nx b c d : Int) (sa : Option Addr) (sc : Nat) (L : List Od) (hr : ¬ SnP nx L) (w : World) (h : OdsAt w (.slice sa L.length sc) L) (h9 : L.length ≤ 100000) :
    Calls Try.prog 12 #[.agg #[.int .i64 nx, .slice sa L.length sc], .int .i64 b, .int .i64 c, .int .i64 d] w (SeP w 0 [] 1) := by
  have HS := Lib.hid h
  have H9 := Lib.hid h9
  clear h h9
  have HRR := Lib.hid hr
  clear hr
  have H0 := Lib.hid (Below.refl w.heap.size w)
  have H1 := Lib.hid (keep2 (al w (.cells #[.int .i64 nx, .slice sa L.length sc] 24)) H0.out)
  clear H0
  have H2 := Lib.hid (Cs.new w (w.heap.size) #[.int .i64 nx, .slice sa L.length sc] 24 (by simp))
  have H3 := Lib.hid (H2.out.step (al (w.alloc (.cells #[.int .i64 nx, .slice sa L.length sc] 24)) (.cells #[.int .i64 0, .slice none 0 0] 24)))
  clear H2
  have H4 := Lib.hid (keep2 (al (w.alloc (.cells #[.int .i64 nx, .slice sa L.length sc] 24)) (.cells #[.int .i64 0, .slice none 0 0] 24)) H1.out)
  clear H1
  have H5 := Lib.hid (Cs.new (w.alloc (.cells #[.int .i64 nx, .slice sa L.length sc] 24)) (w.heap.size + 1) #[.int .i64 0, .slice none 0 0] 24 (by simp))
  have H6 := Lib.hid (H3.out.step (al ((w.alloc (.cells #[.int .i64 nx, .slice sa L.length sc] 24)).alloc (.cells #[.int .i64 0, .slice none 0 0] 24)) (.cells #[.int .i64 0, .int .i64 b, .int .i64 c, .int .i64 d] 32)))
  clear H3
  have H7 := Lib.hid (H5.out.step (al ((w.alloc (.cells #[.int .i64 nx, .slice sa L.length sc] 24)).alloc (.cells #[.int .i64 0, .slice none 0 0] 24)) (.cells #[.int .i64 0, .int .i64 b, .int .i64 c, .int .i64 d] 32)))
  clear H5
  have H8 := Lib.hid (keep2 (al ((w.alloc (.cells #[.int .i64 nx, .slice sa L.length sc] 24)).alloc (.cells #[.int .i64 0, .slice none 0 0] 24)) (.cells #[.int .i64 0, .int .i64 b, .int .i64 c, .int .i64 d] 32)) H4.out)
  clear H4
  have H9 := Lib.hid (Cs.new ((w.alloc (.cells #[.int .i64 nx, .slice sa L.length sc] 24)).alloc (.cells #[.int .i64 0, .slice none 0 0] 24)) (w.heap.size + 1 + 1) #[.int .i64 0, .int .i64 b, .int .i64 c, .int .i64 d] 32 (by simp))
  go_enter Try.func12, Try.ntmps12
  have xS0 : (((w.alloc (.cells #[.int .i64 nx, .slice sa L.length sc] 24)).alloc (.cells #[.int .i64 0, .slice none 0 0] 24)).alloc (.cells #[.int .i64 0, .int .i64 b, .int .i64 c, .int .i64 d] 32)).cell? ⟨(w.heap.size), 0, none⟩ = some (.int .i64 nx) := H6.out.c 0 rfl
  have xS1 : (((w.alloc (.cells #[.int .i64 nx, .slice sa L.length sc] 24)).alloc (.cells #[.int .i64 0, .slice none 0 0] 24)).alloc (.cells #[.int .i64 0, .int .i64 b, .int .i64 c, .int .i64 d] 32)).cell? ⟨(w.heap.size), 1, none⟩ = some (.slice sa L.length sc) := H6.out.c 1 rfl
  have zS : (w.heap.size) < (((w.alloc (.cells #[.int .i64 nx, .slice sa L.length sc] 24)).alloc (.cells #[.int .i64 0, .slice none 0 0] 24)).alloc (.cells #[.int .i64 0, .int .i64 b, .int .i64 c, .int .i64 d] 32)).heap.size := H6.out.2.2
  have xR0 : (((w.alloc (.cells #[.int .i64 nx, .slice sa L.length sc] 24)).alloc (.cells #[.int .i64 0, .slice none 0 0] 24)).alloc (.cells #[.int .i64 0, .int .i64 b, .int .i64 c, .int .i64 d] 32)).cell? ⟨(w.heap.size + 1), 0, none⟩ = some (.int .i64 0) := H7.out.c 0 rfl
  have xR1 : (((w.alloc (.cells #[.int .i64 nx, .slice sa L.length sc] 24)).alloc (.cells #[.int .i64 0, .slice none 0 0] 24)).alloc (.cells #[.int .i64 0, .int .i64 b, .int .i64 c, .int .i64 d] 32)).cell? ⟨(w.heap.size + 1), 1, none⟩ = some (.slice none 0 0) := H7.out.c 1 rfl
  have zR : (w.heap.size + 1) < (((w.alloc (.cells #[.int .i64 nx, .slice sa L.length sc] 24)).alloc (.cells #[.int .i64 0, .slice none 0 0] 24)).alloc (.cells #[.int .i64 0, .int .i64 b, .int .i64 c, .int .i64 d] 32)).heap.size := H7.out.2.2
  have xO0 : (((w.alloc (.cells #[.int .i64 nx, .slice sa L.length sc] 24)).alloc (.cells #[.int .i64 0, .slice none 0 0] 24)).alloc (.cells #[.int .i64 0, .int .i64 b, .int .i64 c, .int .i64 d] 32)).cell? ⟨(w.heap.size + 1 + 1), 0, none⟩ = some (.int .i64 0) := H9.out.c 0 rfl
  have xO1 : (((w.alloc (.cells #[.int .i64 nx, .slice sa L.length sc] 24)).alloc (.cells #[.int .i64 0, .slice none 0 0] 24)).alloc (.cells #[.int .i64 0, .int .i64 b, .int .i64 c, .int .i64 d] 32)).cell? ⟨(w.heap.size + 1 + 1), 1, none⟩ = some (.int .i64 b) := H9.out.c 1 rfl
  have xO2 : (((w.alloc (.cells #[.int .i64 nx, .slice sa L.length sc] 24)).alloc (.cells #[.int .i64 0, .slice none 0 0] 24)).alloc (.cells #[.int .i64 0, .int .i64 b, .int .i64 c, .int .i64 d] 32)).cell? ⟨(w.heap.size + 1 + 1), 2, none⟩ = some (.int .i64 c) := H9.out.c 2 rfl
  have xO3 : (((w.alloc (.cells #[.int .i64 nx, .slice sa L.length sc] 24)).alloc (.cells #[.int .i64 0, .slice none 0 0] 24)).alloc (.cells #[.int .i64 0, .int .i64 b, .int .i64 c, .int .i64 d] 32)).cell? ⟨(w.heap.size + 1 + 1), 3, none⟩ = some (.int .i64 d) := H9.out.c 3 rfl
  have zO : (w.heap.size + 1 + 1) < (((w.alloc (.cells #[.int .i64 nx, .slice sa L.length sc] 24)).alloc (.cells #[.int .i64 0, .slice none 0 0] 24)).alloc (.cells #[.int .i64 0, .int .i64 b, .int .i64 c, .int .i64 d] 32)).heap.size := H9.out.2.2
  go_wp2_with fail
  refine (rsender_any nx sa sc L false (by have h := HRR.out; simpa using h) _ (HS.out.step H8.out)).mono ?_
  rintro e u1 ⟨rfl, b1⟩
  clear xS0 xS1 zS xR0 xR1 zR xO0 xO1 xO2 xO3 zO
  have H10 := Lib.hid (H6.out.step b1)
  clear H6
  have H11 := Lib.hid (H7.out.step b1)
  clear H7
  have H12 := Lib.hid (H9.out.step b1)
  clear H9
  have H13 := Lib.hid (keep2 b1 H8.out)
  clear H8
  clear b1
  have xR0 : u1.cell? ⟨(w.heap.size + 1), 0, none⟩ = some (.int .i64 0) := H11.out.c 0 rfl
  have xR1 : u1.cell? ⟨(w.heap.size + 1), 1, none⟩ = some (.slice none 0 0) := H11.out.c 1 rfl
  have zR : (w.heap.size + 1) < u1.heap.size := H11.out.2.2
  have yr0 : u1.frozen? ⟨(w.heap.size + 1), 0, none⟩ = false := H11.out.f 0 (by simp)
  have yr1 : u1.frozen? ⟨(w.heap.size + 1), 1, none⟩ = false := H11.out.f 1 (by simp)
  go_wp2_with fail
  have HLE := Lib.hid (show w.heap.size ≤ (w.heap.size + 1) by omega)
  refine (fun (h : ∀ V : World, Cs V (w.heap.size + 1) #[.int .i64 0, .slice none 0 0] → Below w.heap.size w V → bodyPost Try.prog Try.f12 _ Exit.ret _ V) => h _ (Cs.set (Cs.set H11.out 0 (by simp) (.int .i64 0) (vs' := #[.int .i64 0, .slice none 0 0]) rfl) 1 (by simp) (.slice none 0 0) (vs' := #[.int .i64 0, .slice none 0 0]) rfl) ((H13.out.setCell (p := ⟨(w.heap.size + 1), 0, none⟩) HLE.out _).setCell (p := ⟨(w.heap.size + 1), 1, none⟩) HLE.out _)) ?_
  intro V hC hB
  have k0 : V.cell? ⟨(w.heap.size + 1), 0, none⟩ = some (.int .i64 0) := hC.c 0 rfl
  have k1 : V.cell? ⟨(w.heap.size + 1), 1, none⟩ = some (.slice none 0 0) := hC.c 1 rfl
  exact bodyPost_ret (v := .tuple #[.agg #[.int .i64 0, .slice none 0 0], .int .i64 1]) (by simp [results, Try.results12, go_sem, k0, k1]) rfl ⟨0, none, rfl, ods_nil _, by simp, hB⟩
set_option maxRecDepth 100000 in
set_option maxHeartbeats 8000000 in
theorem rsend_bad (nx b c d : Int) (sa : Option Addr) (sc : Nat) (L : List Od) (hr : SnP nx L) (ho : orB 0 b c d = false) (w : World) (h : OdsAt w (.slice sa L.length sc) L) (h9 : L.length ≤ 100000) :
    Calls Try.prog 12 #[.agg #[.int .i64 nx, .slice sa L.length sc], .int .i64 b, .int .i64 c, .int .i64 d] w (SeP w 0 [] 1) := by
  have HS := Lib.hid h
  have H9 := Lib.hid h9
  clear h h9
  have HRR := Lib.hid hr
  have HO := Lib.hid ho
  clear hr ho
  have H0 := Lib.hid (Below.refl w.heap.size w)
  have H1 := Lib.hid (keep2 (al w (.cells #[.int .i64 nx, .slice sa L.length sc] 24)) H0.out)
  clear H0
  have H2 := Lib.hid (Cs.new w (w.heap.size) #[.int .i64 nx, .slice sa L.length sc] 24 (by simp))
  have H3 := Lib.hid (H2.out.step (al (w.alloc (.cells #[.int .i64 nx, .slice sa L.length sc] 24)) (.cells #[.int .i64 0, .slice none 0 0] 24)))
  clear H2
  have H4 := Lib.hid (keep2 (al (w.alloc (.cells #[.int .i64 nx, .slice sa L.length sc] 24)) (.cells #[.int .i64 0, .slice none 0 0] 24)) H1.out)
  clear H1
  have H5 := Lib.hid (Cs.new (w.alloc (.cells #[.int .i64 nx, .slice sa L.length sc] 24)) (w.heap.size + 1) #[.int .i64 0, .slice none 0 0] 24 (by simp))
  have H6 := Lib.hid (H3.out.step (al ((w.alloc (.cells #[.int .i64 nx, .slice sa L.length sc] 24)).alloc (.cells #[.int .i64 0, .slice none 0 0] 24)) (.cells #[.int .i64 0, .int .i64 b, .int .i64 c, .int .i64 d] 32)))
  clear H3
  have H7 := Lib.hid (H5.out.step (al ((w.alloc (.cells #[.int .i64 nx, .slice sa L.length sc] 24)).alloc (.cells #[.int .i64 0, .slice none 0 0] 24)) (.cells #[.int .i64 0, .int .i64 b, .int .i64 c, .int .i64 d] 32)))
  clear H5
  have H8 := Lib.hid (keep2 (al ((w.alloc (.cells #[.int .i64 nx, .slice sa L.length sc] 24)).alloc (.cells #[.int .i64 0, .slice none 0 0] 24)) (.cells #[.int .i64 0, .int .i64 b, .int .i64 c, .int .i64 d] 32)) H4.out)
  clear H4
  have H9 := Lib.hid (Cs.new ((w.alloc (.cells #[.int .i64 nx, .slice sa L.length sc] 24)).alloc (.cells #[.int .i64 0, .slice none 0 0] 24)) (w.heap.size + 1 + 1) #[.int .i64 0, .int .i64 b, .int .i64 c, .int .i64 d] 32 (by simp))
  go_enter Try.func12, Try.ntmps12
  have xS0 : (((w.alloc (.cells #[.int .i64 nx, .slice sa L.length sc] 24)).alloc (.cells #[.int .i64 0, .slice none 0 0] 24)).alloc (.cells #[.int .i64 0, .int .i64 b, .int .i64 c, .int .i64 d] 32)).cell? ⟨(w.heap.size), 0, none⟩ = some (.int .i64 nx) := H6.out.c 0 rfl
  have xS1 : (((w.alloc (.cells #[.int .i64 nx, .slice sa L.length sc] 24)).alloc (.cells #[.int .i64 0, .slice none 0 0] 24)).alloc (.cells #[.int .i64 0, .int .i64 b, .int .i64 c, .int .i64 d] 32)).cell? ⟨(w.heap.size), 1, none⟩ = some (.slice sa L.length sc) := H6.out.c 1 rfl
  have zS : (w.heap.size) < (((w.alloc (.cells #[.int .i64 nx, .slice sa L.length sc] 24)).alloc (.cells #[.int .i64 0, .slice none 0 0] 24)).alloc (.cells #[.int .i64 0, .int .i64 b, .int .i64 c, .int .i64 d] 32)).heap.size := H6.out.2.2
  have xR0 : (((w.alloc (.cells #[.int .i64 nx, .slice sa L.length sc] 24)).alloc (.cells #[.int .i64 0, .slice none 0 0] 24)).alloc (.cells #[.int .i64 0, .int .i64 b, .int .i64 c, .int .i64 d] 32)).cell? ⟨(w.heap.size + 1), 0, none⟩ = some (.int .i64 0) := H7.out.c 0 rfl
  have xR1 : (((w.alloc (.cells #[.int .i64 nx, .slice sa L.length sc] 24)).alloc (.cells #[.int .i64 0, .slice none 0 0] 24)).alloc (.cells #[.int .i64 0, .int .i64 b, .int .i64 c, .int .i64 d] 32)).cell? ⟨(w.heap.size + 1), 1, none⟩ = some (.slice none 0 0) := H7.out.c 1 rfl
  have zR : (w.heap.size + 1) < (((w.alloc (.cells #[.int .i64 nx, .slice sa L.length sc] 24)).alloc (.cells #[.int .i64 0, .slice none 0 0] 24)).alloc (.cells #[.int .i64 0, .int .i64 b, .int .i64 c, .int .i64 d] 32)).heap.size := H7.out.2.2
  have xO0 : (((w.alloc (.cells #[.int .i64 nx, .slice sa L.length sc] 24)).alloc (.cells #[.int .i64 0, .slice none 0 0] 24)).alloc (.cells #[.int .i64 0, .int .i64 b, .int .i64 c, .int .i64 d] 32)).cell? ⟨(w.heap.size + 1 + 1), 0, none⟩ = some (.int .i64 0) := H9.out.c 0 rfl
  have xO1 : (((w.alloc (.cells #[.int .i64 nx, .slice sa L.length sc] 24)).alloc (.cells #[.int .i64 0, .slice none 0 0] 24)).alloc (.cells #[.int .i64 0, .int .i64 b, .int .i64 c, .int .i64 d] 32)).cell? ⟨(w.heap.size + 1 + 1), 1, none⟩ = some (.int .i64 b) := H9.out.c 1 rfl
  have xO2 : (((w.alloc (.cells #[.int .i64 nx, .slice sa L.length sc] 24)).alloc (.cells #[.int .i64 0, .slice none 0 0] 24)).alloc (.cells #[.int .i64 0, .int .i64 b, .int .i64 c, .int .i64 d] 32)).cell? ⟨(w.heap.size + 1 + 1), 2, none⟩ = some (.int .i64 c) := H9.out.c 2 rfl
  have xO3 : (((w.alloc (.cells #[.int .i64 nx, .slice sa L.length sc] 24)).alloc (.cells #[.int .i64 0, .slice none 0 0] 24)).alloc (.cells #[.int .i64 0, .int .i64 b, .int .i64 c, .int .i64 d] 32)).cell? ⟨(w.heap.size + 1 + 1), 3, none⟩ = some (.int .i64 d) := H9.out.c 3 rfl
  have zO : (w.heap.size + 1 + 1) < (((w.alloc (.cells #[.int .i64 nx, .slice sa L.length sc] 24)).alloc (.cells #[.int .i64 0, .slice none 0 0] 24)).alloc (.cells #[.int .i64 0, .int .i64 b, .int .i64 c, .int .i64 d] 32)).heap.size := H9.out.2.2
  go_wp2_with fail
  refine (rsender_any nx sa sc L true (by have h := HRR.out; simpa using h) _ (HS.out.step H8.out)).mono ?_
  rintro e u1 ⟨rfl, b1⟩
  clear xS0 xS1 zS xR0 xR1 zR xO0 xO1 xO2 xO3 zO
  have H10 := Lib.hid (H6.out.step b1)
  clear H6
  have H11 := Lib.hid (H7.out.step b1)
  clear H7
  have H12 := Lib.hid (H9.out.step b1)
  clear H9
  have H13 := Lib.hid (keep2 b1 H8.out)
  clear H8
  clear b1
  have xO0 : u1.cell? ⟨(w.heap.size + 1 + 1), 0, none⟩ = some (.int .i64 0) := H12.out.c 0 rfl
  have xO1 : u1.cell? ⟨(w.heap.size + 1 + 1), 1, none⟩ = some (.int .i64 b) := H12.out.c 1 rfl
  have xO2 : u1.cell? ⟨(w.heap.size + 1 + 1), 2, none⟩ = some (.int .i64 c) := H12.out.c 2 rfl
  have xO3 : u1.cell? ⟨(w.heap.size + 1 + 1), 3, none⟩ = some (.int .i64 d) := H12.out.c 3 rfl
  have zO : (w.heap.size + 1 + 1) < u1.heap.size := H12.out.2.2
  go_wp2_with fail
  refine (rorder_any 0 b c d false HO.out _).mono ?_
  rintro e u2 ⟨rfl, b2⟩
  clear xO0 xO1 xO2 xO3 zO
  have H14 := Lib.hid (H10.out.step b2)
  clear H10
  have H15 := Lib.hid (H11.out.step b2)
  clear H11
  have H16 := Lib.hid (H12.out.step b2)
  clear H12
  have H17 := Lib.hid (keep2 b2 H13.out)
  clear H13
  clear b2
  have xR0 : u2.cell? ⟨(w.heap.size + 1), 0, none⟩ = some (.int .i64 0) := H15.out.c 0 rfl
  have xR1 : u2.cell? ⟨(w.heap.size + 1), 1, none⟩ = some (.slice none 0 0) := H15.out.c 1 rfl
  have zR : (w.heap.size + 1) < u2.heap.size := H15.out.2.2
  have yr0 : u2.frozen? ⟨(w.heap.size + 1), 0, none⟩ = false := H15.out.f 0 (by simp)
  have yr1 : u2.frozen? ⟨(w.heap.size + 1), 1, none⟩ = false := H15.out.f 1 (by simp)
  go_wp2_with fail
  have HLE := Lib.hid (show w.heap.size ≤ (w.heap.size + 1) by omega)
  refine (fun (h : ∀ V : World, Cs V (w.heap.size + 1) #[.int .i64 0, .slice none 0 0] → Below w.heap.size w V → bodyPost Try.prog Try.f12 _ Exit.ret _ V) => h _ (Cs.set (Cs.set H15.out 0 (by simp) (.int .i64 0) (vs' := #[.int .i64 0, .slice none 0 0]) rfl) 1 (by simp) (.slice none 0 0) (vs' := #[.int .i64 0, .slice none 0 0]) rfl) ((H17.out.setCell (p := ⟨(w.heap.size + 1), 0, none⟩) HLE.out _).setCell (p := ⟨(w.heap.size + 1), 1, none⟩) HLE.out _)) ?_
  intro V hC hB
  have k0 : V.cell? ⟨(w.heap.size + 1), 0, none⟩ = some (.int .i64 0) := hC.c 0 rfl
  have k1 : V.cell? ⟨(w.heap.size + 1), 1, none⟩ = some (.slice none 0 0) := hC.c 1 rfl
  exact bodyPost_ret (v := .tuple #[.agg #[.int .i64 0, .slice none 0 0], .int .i64 1]) (by simp [results, Try.results12, go_sem, k0, k1]) rfl ⟨0, none, rfl, ods_nil _, by simp, hB⟩
set_option maxRecDepth 100000 in
set_option maxHeartbeats 8000000 in
theorem rsend_full (nx b c d : Int) (sa : Option Addr) (sc : Nat) (L : List Od) (hr : SnP nx L) (ho : orB 0 b c d = true) (hn : 1000000 < nx) (w : World) (h : OdsAt w (.slice sa L.length sc) L) (h9 : L.length ≤ 100000) :
    Calls Try.prog 12 #[.agg #[.int .i64 nx, .slice sa L.length sc], .int .i64 b, .int .i64 c, .int .i64 d] w (SeP w 0 [] 2) := by
  have HS := Lib.hid h
  have H9 := Lib.hid h9
  clear h h9
  have HRR := Lib.hid hr
  have HO := Lib.hid ho
  have g1 : decide (nx > 1000000) = true := by simp; omega
  have g2 : decide (1000000 < nx) = true := by simp; omega
  clear hr ho hn
  have H0 := Lib.hid (Below.refl w.heap.size w)
  have H1 := Lib.hid (keep2 (al w (.cells #[.int .i64 nx, .slice sa L.length sc] 24)) H0.out)
  clear H0
  have H2 := Lib.hid (Cs.new w (w.heap.size) #[.int .i64 nx, .slice sa L.length sc] 24 (by simp))
  have H3 := Lib.hid (H2.out.step (al (w.alloc (.cells #[.int .i64 nx, .slice sa L.length sc] 24)) (.cells #[.int .i64 0, .slice none 0 0] 24)))
  clear H2
  have H4 := Lib.hid (keep2 (al (w.alloc (.cells #[.int .i64 nx, .slice sa L.length sc] 24)) (.cells #[.int .i64 0, .slice none 0 0] 24)) H1.out)
  clear H1
  have H5 := Lib.hid (Cs.new (w.alloc (.cells #[.int .i64 nx, .slice sa L.length sc] 24)) (w.heap.size + 1) #[.int .i64 0, .slice none 0 0] 24 (by simp))
  have H6 := Lib.hid (H3.out.step (al ((w.alloc (.cells #[.int .i64 nx, .slice sa L.length sc] 24)).alloc (.cells #[.int .i64 0, .slice none 0 0] 24)) (.cells #[.int .i64 0, .int .i64 b, .int .i64 c, .int .i64 d] 32)))
  clear H3
  have H7 := Lib.hid (H5.out.step (al ((w.alloc (.cells #[.int .i64 nx, .slice sa L.length sc] 24)).alloc (.cells #[.int .i64 0, .slice none 0 0] 24)) (.cells #[.int .i64 0, .int .i64 b, .int .i64 c, .int .i64 d] 32)))
  clear H5
  have H8 := Lib.hid (keep2 (al ((w.alloc (.cells #[.int .i64 nx, .slice sa L.length sc] 24)).alloc (.cells #[.int .i64 0, .slice none 0 0] 24)) (.cells #[.int .i64 0, .int .i64 b, .int .i64 c, .int .i64 d] 32)) H4.out)
  clear H4
  have H9 := Lib.hid (Cs.new ((w.alloc (.cells #[.int .i64 nx, .slice sa L.length sc] 24)).alloc (.cells #[.int .i64 0, .slice none 0 0] 24)) (w.heap.size + 1 + 1) #[.int .i64 0, .int .i64 b, .int .i64 c, .int .i64 d] 32 (by simp))
  go_enter Try.func12, Try.ntmps12
  have xS0 : (((w.alloc (.cells #[.int .i64 nx, .slice sa L.length sc] 24)).alloc (.cells #[.int .i64 0, .slice none 0 0] 24)).alloc (.cells #[.int .i64 0, .int .i64 b, .int .i64 c, .int .i64 d] 32)).cell? ⟨(w.heap.size), 0, none⟩ = some (.int .i64 nx) := H6.out.c 0 rfl
  have xS1 : (((w.alloc (.cells #[.int .i64 nx, .slice sa L.length sc] 24)).alloc (.cells #[.int .i64 0, .slice none 0 0] 24)).alloc (.cells #[.int .i64 0, .int .i64 b, .int .i64 c, .int .i64 d] 32)).cell? ⟨(w.heap.size), 1, none⟩ = some (.slice sa L.length sc) := H6.out.c 1 rfl
  have zS : (w.heap.size) < (((w.alloc (.cells #[.int .i64 nx, .slice sa L.length sc] 24)).alloc (.cells #[.int .i64 0, .slice none 0 0] 24)).alloc (.cells #[.int .i64 0, .int .i64 b, .int .i64 c, .int .i64 d] 32)).heap.size := H6.out.2.2
  have xR0 : (((w.alloc (.cells #[.int .i64 nx, .slice sa L.length sc] 24)).alloc (.cells #[.int .i64 0, .slice none 0 0] 24)).alloc (.cells #[.int .i64 0, .int .i64 b, .int .i64 c, .int .i64 d] 32)).cell? ⟨(w.heap.size + 1), 0, none⟩ = some (.int .i64 0) := H7.out.c 0 rfl
  have xR1 : (((w.alloc (.cells #[.int .i64 nx, .slice sa L.length sc] 24)).alloc (.cells #[.int .i64 0, .slice none 0 0] 24)).alloc (.cells #[.int .i64 0, .int .i64 b, .int .i64 c, .int .i64 d] 32)).cell? ⟨(w.heap.size + 1), 1, none⟩ = some (.slice none 0 0) := H7.out.c 1 rfl
  have zR : (w.heap.size + 1) < (((w.alloc (.cells #[.int .i64 nx, .slice sa L.length sc] 24)).alloc (.cells #[.int .i64 0, .slice none 0 0] 24)).alloc (.cells #[.int .i64 0, .int .i64 b, .int .i64 c, .int .i64 d] 32)).heap.size := H7.out.2.2
  have xO0 : (((w.alloc (.cells #[.int .i64 nx, .slice sa L.length sc] 24)).alloc (.cells #[.int .i64 0, .slice none 0 0] 24)).alloc (.cells #[.int .i64 0, .int .i64 b, .int .i64 c, .int .i64 d] 32)).cell? ⟨(w.heap.size + 1 + 1), 0, none⟩ = some (.int .i64 0) := H9.out.c 0 rfl
  have xO1 : (((w.alloc (.cells #[.int .i64 nx, .slice sa L.length sc] 24)).alloc (.cells #[.int .i64 0, .slice none 0 0] 24)).alloc (.cells #[.int .i64 0, .int .i64 b, .int .i64 c, .int .i64 d] 32)).cell? ⟨(w.heap.size + 1 + 1), 1, none⟩ = some (.int .i64 b) := H9.out.c 1 rfl
  have xO2 : (((w.alloc (.cells #[.int .i64 nx, .slice sa L.length sc] 24)).alloc (.cells #[.int .i64 0, .slice none 0 0] 24)).alloc (.cells #[.int .i64 0, .int .i64 b, .int .i64 c, .int .i64 d] 32)).cell? ⟨(w.heap.size + 1 + 1), 2, none⟩ = some (.int .i64 c) := H9.out.c 2 rfl
  have xO3 : (((w.alloc (.cells #[.int .i64 nx, .slice sa L.length sc] 24)).alloc (.cells #[.int .i64 0, .slice none 0 0] 24)).alloc (.cells #[.int .i64 0, .int .i64 b, .int .i64 c, .int .i64 d] 32)).cell? ⟨(w.heap.size + 1 + 1), 3, none⟩ = some (.int .i64 d) := H9.out.c 3 rfl
  have zO : (w.heap.size + 1 + 1) < (((w.alloc (.cells #[.int .i64 nx, .slice sa L.length sc] 24)).alloc (.cells #[.int .i64 0, .slice none 0 0] 24)).alloc (.cells #[.int .i64 0, .int .i64 b, .int .i64 c, .int .i64 d] 32)).heap.size := H9.out.2.2
  go_wp2_with fail
  refine (rsender_any nx sa sc L true (by have h := HRR.out; simpa using h) _ (HS.out.step H8.out)).mono ?_
  rintro e u1 ⟨rfl, b1⟩
  clear xS0 xS1 zS xR0 xR1 zR xO0 xO1 xO2 xO3 zO
  have H10 := Lib.hid (H6.out.step b1)
  clear H6
  have H11 := Lib.hid (H7.out.step b1)
  clear H7
  have H12 := Lib.hid (H9.out.step b1)
  clear H9
  have H13 := Lib.hid (keep2 b1 H8.out)
  clear H8
  clear b1
  have xO0 : u1.cell? ⟨(w.heap.size + 1 + 1), 0, none⟩ = some (.int .i64 0) := H12.out.c 0 rfl
  have xO1 : u1.cell? ⟨(w.heap.size + 1 + 1), 1, none⟩ = some (.int .i64 b) := H12.out.c 1 rfl
  have xO2 : u1.cell? ⟨(w.heap.size + 1 + 1), 2, none⟩ = some (.int .i64 c) := H12.out.c 2 rfl
  have xO3 : u1.cell? ⟨(w.heap.size + 1 + 1), 3, none⟩ = some (.int .i64 d) := H12.out.c 3 rfl
  have zO : (w.heap.size + 1 + 1) < u1.heap.size := H12.out.2.2
  go_wp2_with fail
  refine (rorder_any 0 b c d true HO.out _).mono ?_
  rintro e u2 ⟨rfl, b2⟩
  clear xO0 xO1 xO2 xO3 zO
  have H14 := Lib.hid (H10.out.step b2)
  clear H10
  have H15 := Lib.hid (H11.out.step b2)
  clear H11
  have H16 := Lib.hid (H12.out.step b2)
  clear H12
  have H17 := Lib.hid (keep2 b2 H13.out)
  clear H13
  clear b2
  have xS0 : u2.cell? ⟨(w.heap.size), 0, none⟩ = some (.int .i64 nx) := H14.out.c 0 rfl
  have xS1 : u2.cell? ⟨(w.heap.size), 1, none⟩ = some (.slice sa L.length sc) := H14.out.c 1 rfl
  have zS : (w.heap.size) < u2.heap.size := H14.out.2.2
  have xR0 : u2.cell? ⟨(w.heap.size + 1), 0, none⟩ = some (.int .i64 0) := H15.out.c 0 rfl
  have xR1 : u2.cell? ⟨(w.heap.size + 1), 1, none⟩ = some (.slice none 0 0) := H15.out.c 1 rfl
  have zR : (w.heap.size + 1) < u2.heap.size := H15.out.2.2
  have yr0 : u2.frozen? ⟨(w.heap.size + 1), 0, none⟩ = false := H15.out.f 0 (by simp)
  have yr1 : u2.frozen? ⟨(w.heap.size + 1), 1, none⟩ = false := H15.out.f 1 (by simp)
  go_wp2_with fail
  have HLE := Lib.hid (show w.heap.size ≤ (w.heap.size + 1) by omega)
  refine (fun (h : ∀ V : World, Cs V (w.heap.size + 1) #[.int .i64 0, .slice none 0 0] → Below w.heap.size w V → bodyPost Try.prog Try.f12 _ Exit.ret _ V) => h _ (Cs.set (Cs.set H15.out 0 (by simp) (.int .i64 0) (vs' := #[.int .i64 0, .slice none 0 0]) rfl) 1 (by simp) (.slice none 0 0) (vs' := #[.int .i64 0, .slice none 0 0]) rfl) ((H17.out.setCell (p := ⟨(w.heap.size + 1), 0, none⟩) HLE.out _).setCell (p := ⟨(w.heap.size + 1), 1, none⟩) HLE.out _)) ?_
  intro V hC hB
  have k0 : V.cell? ⟨(w.heap.size + 1), 0, none⟩ = some (.int .i64 0) := hC.c 0 rfl
  have k1 : V.cell? ⟨(w.heap.size + 1), 1, none⟩ = some (.slice none 0 0) := hC.c 1 rfl
  exact bodyPost_ret (v := .tuple #[.agg #[.int .i64 0, .slice none 0 0], .int .i64 2]) (by simp [results, Try.results12, go_sem, k0, k1]) rfl ⟨0, none, rfl, ods_nil _, by simp, hB⟩
set_option maxRecDepth 100000 in
set_option maxHeartbeats 8000000 in
theorem rsend_wait (nx b c d : Int) (sa : Option Addr) (sc : Nat) (L : List Od) (hr : SnP nx L) (ho : orB 0 b c d = true) (hn : ¬ 1000000 < nx) (hp : 0 < L.length) (ha : (L.getD 0 zO).a ≤ nx - 16) (w : World) (h : OdsAt w (.slice sa L.length sc) L) (h9 : L.length ≤ 100000) :
    Calls Try.prog 12 #[.agg #[.int .i64 nx, .slice sa L.length sc], .int .i64 b, .int .i64 c, .int .i64 d] w (SeP w 0 [] 30) := by
  have HS := Lib.hid h
  have H9 := Lib.hid h9
  clear h h9
  have HRR := Lib.hid hr
  have HO := Lib.hid ho
  have g1 : decide (nx > 1000000) = false := by simp; omega
  have g2 : decide (1000000 < nx) = false := by simp; omega
  have e16 : wrap64 (nx - 16) = nx - 16 := IntWalk.wrap64_in _ (by have := hr.1; omega)
  have HNX := Lib.hid hr.1
  have HA := Lib.hid ha
  have HP := Lib.hid hp
  clear hr ho hn ha hp
  have H0 := Lib.hid (Below.refl w.heap.size w)
  have H1 := Lib.hid (keep2 (al w (.cells #[.int .i64 nx, .slice sa L.length sc] 24)) H0.out)
  clear H0
  have H2 := Lib.hid (Cs.new w (w.heap.size) #[.int .i64 nx, .slice sa L.length sc] 24 (by simp))
  have H3 := Lib.hid (H2.out.step (al (w.alloc (.cells #[.int .i64 nx, .slice sa L.length sc] 24)) (.cells #[.int .i64 0, .slice none 0 0] 24)))
  clear H2
  have H4 := Lib.hid (keep2 (al (w.alloc (.cells #[.int .i64 nx, .slice sa L.length sc] 24)) (.cells #[.int .i64 0, .slice none 0 0] 24)) H1.out)
  clear H1
  have H5 := Lib.hid (Cs.new (w.alloc (.cells #[.int .i64 nx, .slice sa L.length sc] 24)) (w.heap.size + 1) #[.int .i64 0, .slice none 0 0] 24 (by simp))
  have H6 := Lib.hid (H3.out.step (al ((w.alloc (.cells #[.int .i64 nx, .slice sa L.length sc] 24)).alloc (.cells #[.int .i64 0, .slice none 0 0] 24)) (.cells #[.int .i64 0, .int .i64 b, .int .i64 c, .int .i64 d] 32)))
  clear H3
  have H7 := Lib.hid (H5.out.step (al ((w.alloc (.cells #[.int .i64 nx, .slice sa L.length sc] 24)).alloc (.cells #[.int .i64 0, .slice none 0 0] 24)) (.cells #[.int .i64 0, .int .i64 b, .int .i64 c, .int .i64 d] 32)))
  clear H5
  have H8 := Lib.hid (keep2 (al ((w.alloc (.cells #[.int .i64 nx, .slice sa L.length sc] 24)).alloc (.cells #[.int .i64 0, .slice none 0 0] 24)) (.cells #[.int .i64 0, .int .i64 b, .int .i64 c, .int .i64 d] 32)) H4.out)
  clear H4
  have H9 := Lib.hid (Cs.new ((w.alloc (.cells #[.int .i64 nx, .slice sa L.length sc] 24)).alloc (.cells #[.int .i64 0, .slice none 0 0] 24)) (w.heap.size + 1 + 1) #[.int .i64 0, .int .i64 b, .int .i64 c, .int .i64 d] 32 (by simp))
  go_enter Try.func12, Try.ntmps12
  have xS0 : (((w.alloc (.cells #[.int .i64 nx, .slice sa L.length sc] 24)).alloc (.cells #[.int .i64 0, .slice none 0 0] 24)).alloc (.cells #[.int .i64 0, .int .i64 b, .int .i64 c, .int .i64 d] 32)).cell? ⟨(w.heap.size), 0, none⟩ = some (.int .i64 nx) := H6.out.c 0 rfl
  have xS1 : (((w.alloc (.cells #[.int .i64 nx, .slice sa L.length sc] 24)).alloc (.cells #[.int .i64 0, .slice none 0 0] 24)).alloc (.cells #[.int .i64 0, .int .i64 b, .int .i64 c, .int .i64 d] 32)).cell? ⟨(w.heap.size), 1, none⟩ = some (.slice sa L.length sc) := H6.out.c 1 rfl
  have zS : (w.heap.size) < (((w.alloc (.cells #[.int .i64 nx, .slice sa L.length sc] 24)).alloc (.cells #[.int .i64 0, .slice none 0 0] 24)).alloc (.cells #[.int .i64 0, .int .i64 b, .int .i64 c, .int .i64 d] 32)).heap.size := H6.out.2.2
  have xR0 : (((w.alloc (.cells #[.int .i64 nx, .slice sa L.length sc] 24)).alloc (.cells #[.int .i64 0, .slice none 0 0] 24)).alloc (.cells #[.int .i64 0, .int .i64 b, .int .i64 c, .int .i64 d] 32)).cell? ⟨(w.heap.size + 1), 0, none⟩ = some (.int .i64 0) := H7.out.c 0 rfl
  have xR1 : (((w.alloc (.cells #[.int .i64 nx, .slice sa L.length sc] 24)).alloc (.cells #[.int .i64 0, .slice none 0 0] 24)).alloc (.cells #[.int .i64 0, .int .i64 b, .int .i64 c, .int .i64 d] 32)).cell? ⟨(w.heap.size + 1), 1, none⟩ = some (.slice none 0 0) := H7.out.c 1 rfl
  have zR : (w.heap.size + 1) < (((w.alloc (.cells #[.int .i64 nx, .slice sa L.length sc] 24)).alloc (.cells #[.int .i64 0, .slice none 0 0] 24)).alloc (.cells #[.int .i64 0, .int .i64 b, .int .i64 c, .int .i64 d] 32)).heap.size := H7.out.2.2
  have xO0 : (((w.alloc (.cells #[.int .i64 nx, .slice sa L.length sc] 24)).alloc (.cells #[.int .i64 0, .slice none 0 0] 24)).alloc (.cells #[.int .i64 0, .int .i64 b, .int .i64 c, .int .i64 d] 32)).cell? ⟨(w.heap.size + 1 + 1), 0, none⟩ = some (.int .i64 0) := H9.out.c 0 rfl
  have xO1 : (((w.alloc (.cells #[.int .i64 nx, .slice sa L.length sc] 24)).alloc (.cells #[.int .i64 0, .slice none 0 0] 24)).alloc (.cells #[.int .i64 0, .int .i64 b, .int .i64 c, .int .i64 d] 32)).cell? ⟨(w.heap.size + 1 + 1), 1, none⟩ = some (.int .i64 b) := H9.out.c 1 rfl
  have xO2 : (((w.alloc (.cells #[.int .i64 nx, .slice sa L.length sc] 24)).alloc (.cells #[.int .i64 0, .slice none 0 0] 24)).alloc (.cells #[.int .i64 0, .int .i64 b, .int .i64 c, .int .i64 d] 32)).cell? ⟨(w.heap.size + 1 + 1), 2, none⟩ = some (.int .i64 c) := H9.out.c 2 rfl
  have xO3 : (((w.alloc (.cells #[.int .i64 nx, .slice sa L.length sc] 24)).alloc (.cells #[.int .i64 0, .slice none 0 0] 24)).alloc (.cells #[.int .i64 0, .int .i64 b, .int .i64 c, .int .i64 d] 32)).cell? ⟨(w.heap.size + 1 + 1), 3, none⟩ = some (.int .i64 d) := H9.out.c 3 rfl
  have zO : (w.heap.size + 1 + 1) < (((w.alloc (.cells #[.int .i64 nx, .slice sa L.length sc] 24)).alloc (.cells #[.int .i64 0, .slice none 0 0] 24)).alloc (.cells #[.int .i64 0, .int .i64 b, .int .i64 c, .int .i64 d] 32)).heap.size := H9.out.2.2
  go_wp2_with fail
  refine (rsender_any nx sa sc L true (by have h := HRR.out; simpa using h) _ (HS.out.step H8.out)).mono ?_
  rintro e u1 ⟨rfl, b1⟩
  clear xS0 xS1 zS xR0 xR1 zR xO0 xO1 xO2 xO3 zO
  have H10 := Lib.hid (H6.out.step b1)
  clear H6
  have H11 := Lib.hid (H7.out.step b1)
  clear H7
  have H12 := Lib.hid (H9.out.step b1)
  clear H9
  have H13 := Lib.hid (keep2 b1 H8.out)
  clear H8
  clear b1
  have xO0 : u1.cell? ⟨(w.heap.size + 1 + 1), 0, none⟩ = some (.int .i64 0) := H12.out.c 0 rfl
  have xO1 : u1.cell? ⟨(w.heap.size + 1 + 1), 1, none⟩ = some (.int .i64 b) := H12.out.c 1 rfl
  have xO2 : u1.cell? ⟨(w.heap.size + 1 + 1), 2, none⟩ = some (.int .i64 c) := H12.out.c 2 rfl
  have xO3 : u1.cell? ⟨(w.heap.size + 1 + 1), 3, none⟩ = some (.int .i64 d) := H12.out.c 3 rfl
  have zO : (w.heap.size + 1 + 1) < u1.heap.size := H12.out.2.2
  go_wp2_with fail
  refine (rorder_any 0 b c d true HO.out _).mono ?_
  rintro e u2 ⟨rfl, b2⟩
  clear xO0 xO1 xO2 xO3 zO
  have H14 := Lib.hid (H10.out.step b2)
  clear H10
  have H15 := Lib.hid (H11.out.step b2)
  clear H11
  have H16 := Lib.hid (H12.out.step b2)
  clear H12
  have H17 := Lib.hid (keep2 b2 H13.out)
  clear H13
  clear b2
  have xS0 : u2.cell? ⟨(w.heap.size), 0, none⟩ = some (.int .i64 nx) := H14.out.c 0 rfl
  have xS1 : u2.cell? ⟨(w.heap.size), 1, none⟩ = some (.slice sa L.length sc) := H14.out.c 1 rfl
  have zS : (w.heap.size) < u2.heap.size := H14.out.2.2
  go_wp2_with fail
  obtain ⟨ta, tc, hv1, -, -, hcs1⟩ := HS.out.step H17.out
  obtain ⟨rfl, rfl⟩ : sa = ta ∧ sc = tc := by simpa using hv1
  obtain ⟨b1, p1, rfl, hx1⟩ := hcs1 (by intro e; rw [e] at HP; exact absurd HP.out (by simp))
  obtain ⟨y0, -, -, -⟩ := hx1 0 _ (od_get HP.out)
  have yz : b1 < u2.heap.size := World.block_lt_of_cell? _ _ y0
  have t1 : (0 : Int) < (L.length : Int) := by have := HP.out; omega
  have t2 : decide ((0 : Int) < (L.length : Int)) = true := decide_eq_true t1
  have t3 : 0 < L.length := HP.out
  obtain ⟨x, hx⟩ : ∃ x, (L.getD 0 zO).a = x := ⟨_, rfl⟩
  rw [hx] at y0 HA
  simp only [Nat.zero_mul, Nat.add_zero] at y0
  clear hcs1 hx1 hv1 hx
  have t4 : decide (x ≤ nx - 16) = true := by have := HA.out; simp; omega
  go_quiet (fail)
  obtain ⟨WQ, hWQ⟩ : ∃ z, u2.drewN nq = z := ⟨_, rfl⟩
  have bq : Below u2.heap.size u2 WQ := by rw [← hWQ]; exact below_drewN' _ _ _
  rw [hWQ]
  clear hWQ y0 yz xS0 xS1 zS
  have H18 := Lib.hid (H14.out.step bq)
  clear H14
  have H19 := Lib.hid (H15.out.step bq)
  clear H15
  have H20 := Lib.hid (H16.out.step bq)
  clear H16
  have H21 := Lib.hid (keep2 bq H17.out)
  clear H17
  clear bq
  have xR0 : WQ.cell? ⟨(w.heap.size + 1), 0, none⟩ = some (.int .i64 0) := H19.out.c 0 rfl
  have xR1 : WQ.cell? ⟨(w.heap.size + 1), 1, none⟩ = some (.slice none 0 0) := H19.out.c 1 rfl
  have zR : (w.heap.size + 1) < WQ.heap.size := H19.out.2.2
  have yr0 : WQ.frozen? ⟨(w.heap.size + 1), 0, none⟩ = false := H19.out.f 0 (by simp)
  have yr1 : WQ.frozen? ⟨(w.heap.size + 1), 1, none⟩ = false := H19.out.f 1 (by simp)
  go_wp2_with fail
  have HLE := Lib.hid (show w.heap.size ≤ (w.heap.size + 1) by omega)
  refine (fun (h : ∀ V : World, Cs V (w.heap.size + 1) #[.int .i64 0, .slice none 0 0] → Below w.heap.size w V → bodyPost Try.prog Try.f12 _ Exit.ret _ V) => h _ (Cs.set (Cs.set H19.out 0 (by simp) (.int .i64 0) (vs' := #[.int .i64 0, .slice none 0 0]) rfl) 1 (by simp) (.slice none 0 0) (vs' := #[.int .i64 0, .slice none 0 0]) rfl) ((H21.out.setCell (p := ⟨(w.heap.size + 1), 0, none⟩) HLE.out _).setCell (p := ⟨(w.heap.size + 1), 1, none⟩) HLE.out _)) ?_
  intro V hC hB
  have k0 : V.cell? ⟨(w.heap.size + 1), 0, none⟩ = some (.int .i64 0) := hC.c 0 rfl
  have k1 : V.cell? ⟨(w.heap.size + 1), 1, none⟩ = some (.slice none 0 0) := hC.c 1 rfl
  exact bodyPost_ret (v := .tuple #[.agg #[.int .i64 0, .slice none 0 0], .int .i64 30]) (by simp [results, Try.results12, go_sem, k0, k1]) rfl ⟨0, none, rfl, ods_nil _, by simp, hB⟩
set_option maxRecDepth 100000 in
set_option maxHeartbeats 8000000 in
theorem rsend_ok (nx b c d : Int) (sa : Option Addr) (sc : Nat) (L : List Od) (hr : SnP nx L) (ho : orB 0 b c d = true) (hn : ¬ 1000000 < nx) (ha : 0 < L.length → nx - 16 < (L.getD 0 zO).a) {LX : List Od} (hlx : LX = L ++ [⟨nx, b, c, d⟩]) (w : World) (h : OdsAt w (.slice sa L.length sc) L) (h9 : L.length ≤ 100000) :
    Calls Try.prog 12 #[.agg #[.int .i64 nx, .slice sa L.length sc], .int .i64 b, .int .i64 c, .int .i64 d] w (SeP w (nx + 1) LX 0) := by
  have HS := Lib.hid h
  have H9 := Lib.hid h9
  clear h h9
  have HRR := Lib.hid hr
  have HO := Lib.hid ho
  have g1 : decide (nx > 1000000) = false := by simp; omega
  have g2 : decide (1000000 < nx) = false := by simp; omega
  have e16 : wrap64 (nx - 16) = nx - 16 := IntWalk.wrap64_in _ (by have := hr.1; omega)
  have HNX := Lib.hid hr.1
  have HA := Lib.hid ha
  have HW17 := Lib.hid (show IntKind.i64.wrap (nx + 1) = nx + 1 from IntWalk.i64_in _ (by have := hr.1; omega))
  have HLX := Lib.hid hlx
  clear hr ho hn ha hlx
  have H0 := Lib.hid (Below.refl w.heap.size w)
  have H1 := Lib.hid (keep2 (al w (.cells #[.int .i64 nx, .slice sa L.length sc] 24)) H0.out)
  clear H0
  have H2 := Lib.hid (Cs.new w (w.heap.size) #[.int .i64 nx, .slice sa L.length sc] 24 (by simp))
  have H3 := Lib.hid (H2.out.step (al (w.alloc (.cells #[.int .i64 nx, .slice sa L.length sc] 24)) (.cells #[.int .i64 0, .slice none 0 0] 24)))
  clear H2
  have H4 := Lib.hid (keep2 (al (w.alloc (.cells #[.int .i64 nx, .slice sa L.length sc] 24)) (.cells #[.int .i64 0, .slice none 0 0] 24)) H1.out)
  clear H1
  have H5 := Lib.hid (Cs.new (w.alloc (.cells #[.int .i64 nx, .slice sa L.length sc] 24)) (w.heap.size + 1) #[.int .i64 0, .slice none 0 0] 24 (by simp))
  have H6 := Lib.hid (H3.out.step (al ((w.alloc (.cells #[.int .i64 nx, .slice sa L.length sc] 24)).alloc (.cells #[.int .i64 0, .slice none 0 0] 24)) (.cells #[.int .i64 0, .int .i64 b, .int .i64 c, .int .i64 d] 32)))
  clear H3
  have H7 := Lib.hid (H5.out.step (al ((w.alloc (.cells #[.int .i64 nx, .slice sa L.length sc] 24)).alloc (.cells #[.int .i64 0, .slice none 0 0] 24)) (.cells #[.int .i64 0, .int .i64 b, .int .i64 c, .int .i64 d] 32)))
  clear H5
  have H8 := Lib.hid (keep2 (al ((w.alloc (.cells #[.int .i64 nx, .slice sa L.length sc] 24)).alloc (.cells #[.int .i64 0, .slice none 0 0] 24)) (.cells #[.int .i64 0, .int .i64 b, .int .i64 c, .int .i64 d] 32)) H4.out)
  clear H4
  have H9 := Lib.hid (Cs.new ((w.alloc (.cells #[.int .i64 nx, .slice sa L.length sc] 24)).alloc (.cells #[.int .i64 0, .slice none 0 0] 24)) (w.heap.size + 1 + 1) #[.int .i64 0, .int .i64 b, .int .i64 c, .int .i64 d] 32 (by simp))
  go_enter Try.func12, Try.ntmps12
  have xS0 : (((w.alloc (.cells #[.int .i64 nx, .slice sa L.length sc] 24)).alloc (.cells #[.int .i64 0, .slice none 0 0] 24)).alloc (.cells #[.int .i64 0, .int .i64 b, .int .i64 c, .int .i64 d] 32)).cell? ⟨(w.heap.size), 0, none⟩ = some (.int .i64 nx) := H6.out.c 0 rfl
  have xS1 : (((w.alloc (.cells #[.int .i64 nx, .slice sa L.length sc] 24)).alloc (.cells #[.int .i64 0, .slice none 0 0] 24)).alloc (.cells #[.int .i64 0, .int .i64 b, .int .i64 c, .int .i64 d] 32)).cell? ⟨(w.heap.size), 1, none⟩ = some (.slice sa L.length sc) := H6.out.c 1 rfl
  have zS : (w.heap.size) < (((w.alloc (.cells #[.int .i64 nx, .slice sa L.length sc] 24)).alloc (.cells #[.int .i64 0, .slice none 0 0] 24)).alloc (.cells #[.int .i64 0, .int .i64 b, .int .i64 c, .int .i64 d] 32)).heap.size := H6.out.2.2
  have xR0 : (((w.alloc (.cells #[.int .i64 nx, .slice sa L.length sc] 24)).alloc (.cells #[.int .i64 0, .slice none 0 0] 24)).alloc (.cells #[.int .i64 0, .int .i64 b, .int .i64 c, .int .i64 d] 32)).cell? ⟨(w.heap.size + 1), 0, none⟩ = some (.int .i64 0) := H7.out.c 0 rfl
  have xR1 : (((w.alloc (.cells #[.int .i64 nx, .slice sa L.length sc] 24)).alloc (.cells #[.int .i64 0, .slice none 0 0] 24)).alloc (.cells #[.int .i64 0, .int .i64 b, .int .i64 c, .int .i64 d] 32)).cell? ⟨(w.heap.size + 1), 1, none⟩ = some (.slice none 0 0) := H7.out.c 1 rfl
  have zR : (w.heap.size + 1) < (((w.alloc (.cells #[.int .i64 nx, .slice sa L.length sc] 24)).alloc (.cells #[.int .i64 0, .slice none 0 0] 24)).alloc (.cells #[.int .i64 0, .int .i64 b, .int .i64 c, .int .i64 d] 32)).heap.size := H7.out.2.2
  have xO0 : (((w.alloc (.cells #[.int .i64 nx, .slice sa L.length sc] 24)).alloc (.cells #[.int .i64 0, .slice none 0 0] 24)).alloc (.cells #[.int .i64 0, .int .i64 b, .int .i64 c, .int .i64 d] 32)).cell? ⟨(w.heap.size + 1 + 1), 0, none⟩ = some (.int .i64 0) := H9.out.c 0 rfl
  have xO1 : (((w.alloc (.cells #[.int .i64 nx, .slice sa L.length sc] 24)).alloc (.cells #[.int .i64 0, .slice none 0 0] 24)).alloc (.cells #[.int .i64 0, .int .i64 b, .int .i64 c, .int .i64 d] 32)).cell? ⟨(w.heap.size + 1 + 1), 1, none⟩ = some (.int .i64 b) := H9.out.c 1 rfl
  have xO2 : (((w.alloc (.cells #[.int .i64 nx, .slice sa L.length sc] 24)).alloc (.cells #[.int .i64 0, .slice none 0 0] 24)).alloc (.cells #[.int .i64 0, .int .i64 b, .int .i64 c, .int .i64 d] 32)).cell? ⟨(w.heap.size + 1 + 1), 2, none⟩ = some (.int .i64 c) := H9.out.c 2 rfl
  have xO3 : (((w.alloc (.cells #[.int .i64 nx, .slice sa L.length sc] 24)).alloc (.cells #[.int .i64 0, .slice none 0 0] 24)).alloc (.cells #[.int .i64 0, .int .i64 b, .int .i64 c, .int .i64 d] 32)).cell? ⟨(w.heap.size + 1 + 1), 3, none⟩ = some (.int .i64 d) := H9.out.c 3 rfl
  have zO : (w.heap.size + 1 + 1) < (((w.alloc (.cells #[.int .i64 nx, .slice sa L.length sc] 24)).alloc (.cells #[.int .i64 0, .slice none 0 0] 24)).alloc (.cells #[.int .i64 0, .int .i64 b, .int .i64 c, .int .i64 d] 32)).heap.size := H9.out.2.2
  go_wp2_with fail
  refine (rsender_any nx sa sc L true (by have h := HRR.out; simpa using h) _ (HS.out.step H8.out)).mono ?_
  rintro e u1 ⟨rfl, b1⟩
  clear xS0 xS1 zS xR0 xR1 zR xO0 xO1 xO2 xO3 zO
  have H10 := Lib.hid (H6.out.step b1)
  clear H6
  have H11 := Lib.hid (H7.out.step b1)
  clear H7
  have H12 := Lib.hid (H9.out.step b1)
  clear H9
  have H13 := Lib.hid (keep2 b1 H8.out)
  clear H8
  clear b1
  have xO0 : u1.cell? ⟨(w.heap.size + 1 + 1), 0, none⟩ = some (.int .i64 0) := H12.out.c 0 rfl
  have xO1 : u1.cell? ⟨(w.heap.size + 1 + 1), 1, none⟩ = some (.int .i64 b) := H12.out.c 1 rfl
  have xO2 : u1.cell? ⟨(w.heap.size + 1 + 1), 2, none⟩ = some (.int .i64 c) := H12.out.c 2 rfl
  have xO3 : u1.cell? ⟨(w.heap.size + 1 + 1), 3, none⟩ = some (.int .i64 d) := H12.out.c 3 rfl
  have zO : (w.heap.size + 1 + 1) < u1.heap.size := H12.out.2.2
  go_wp2_with fail
  refine (rorder_any 0 b c d true HO.out _).mono ?_
  rintro e u2 ⟨rfl, b2⟩
  clear xO0 xO1 xO2 xO3 zO
  have H14 := Lib.hid (H10.out.step b2)
  clear H10
  have H15 := Lib.hid (H11.out.step b2)
  clear H11
  have H16 := Lib.hid (H12.out.step b2)
  clear H12
  have H17 := Lib.hid (keep2 b2 H13.out)
  clear H13
  clear b2
  have xS0 : u2.cell? ⟨(w.heap.size), 0, none⟩ = some (.int .i64 nx) := H14.out.c 0 rfl
  have xS1 : u2.cell? ⟨(w.heap.size), 1, none⟩ = some (.slice sa L.length sc) := H14.out.c 1 rfl
  have zS : (w.heap.size) < u2.heap.size := H14.out.2.2
  go_wp2_with fail
  go_cut [42] from 28 to 41 (fun v wc => v = .bool false ∧ Below u2.heap.size u2 wc)
  case first =>
    by_cases hp : 0 < L.length
    · have HP := Lib.hid hp
      replace HA := Lib.hid (HA.out hp)
      clear hp
      obtain ⟨ta, tc, hv1, -, -, hcs1⟩ := HS.out.step H17.out
      obtain ⟨rfl, rfl⟩ : sa = ta ∧ sc = tc := by simpa using hv1
      obtain ⟨b1, p1, rfl, hx1⟩ := hcs1 (by intro e; rw [e] at HP; exact absurd HP.out (by simp))
      obtain ⟨y0, -, -, -⟩ := hx1 0 _ (od_get HP.out)
      have yz : b1 < u2.heap.size := World.block_lt_of_cell? _ _ y0
      have t1 : (0 : Int) < (L.length : Int) := by have := HP.out; omega
      have t2 : decide ((0 : Int) < (L.length : Int)) = true := decide_eq_true t1
      have t3 : 0 < L.length := HP.out
      obtain ⟨x, hx⟩ : ∃ x, (L.getD 0 zO).a = x := ⟨_, rfl⟩
      rw [hx] at y0 HA
      simp only [Nat.zero_mul, Nat.add_zero] at y0
      clear hcs1 hx1 hv1 hx
      have t4 : decide (x ≤ nx - 16) = false := by have := HA.out; simp; omega
      go_quiet (fail)
      go_wp2
      go_meet
      exact ⟨by first | rfl | trivial, below_drewN' _ _ _⟩
    · have t1 : ¬ (0 : Int) < (L.length : Int) := by omega
      have t2 : decide ((0 : Int) < (L.length : Int)) = false := decide_eq_false t1
      go_quiet (fail)
      go_wp2
      go_meet
      exact ⟨by first | rfl | trivial, below_drewN' _ _ _⟩
  case rest =>
    obtain ⟨rfl, bq⟩ := hcut
    clear xS0 xS1 zS
    have H18 := Lib.hid (H14.out.step bq)
    clear H14
    have H19 := Lib.hid (H15.out.step bq)
    clear H15
    have H20 := Lib.hid (H16.out.step bq)
    clear H16
    have H21 := Lib.hid (keep2 bq H17.out)
    clear H17
    clear bq
    have xS0 : wc.cell? ⟨(w.heap.size), 0, none⟩ = some (.int .i64 nx) := H18.out.c 0 rfl
    have xS1 : wc.cell? ⟨(w.heap.size), 1, none⟩ = some (.slice sa L.length sc) := H18.out.c 1 rfl
    have zS : (w.heap.size) < wc.heap.size := H18.out.2.2
    have xO0 : wc.cell? ⟨(w.heap.size + 1 + 1), 0, none⟩ = some (.int .i64 0) := H20.out.c 0 rfl
    have xO1 : wc.cell? ⟨(w.heap.size + 1 + 1), 1, none⟩ = some (.int .i64 b) := H20.out.c 1 rfl
    have xO2 : wc.cell? ⟨(w.heap.size + 1 + 1), 2, none⟩ = some (.int .i64 c) := H20.out.c 2 rfl
    have xO3 : wc.cell? ⟨(w.heap.size + 1 + 1), 3, none⟩ = some (.int .i64 d) := H20.out.c 3 rfl
    have zO : (w.heap.size + 1 + 1) < wc.heap.size := H20.out.2.2
    have yO0 : wc.frozen? ⟨(w.heap.size + 1 + 1), 0, none⟩ = false := H20.out.f 0 (by simp)
    go_upto_region 9 with fail
    have H22 := Lib.hid (Cs.other H18.out (show (w.heap.size) ≠ (w.heap.size + 1 + 1) by omega) 0 (.int .i64 nx))
    clear H18
    have H23 := Lib.hid (Cs.other H19.out (show (w.heap.size + 1) ≠ (w.heap.size + 1 + 1) by omega) 0 (.int .i64 nx))
    clear H19
    have H24 := Lib.hid (Cs.set H20.out 0 (by simp) (.int .i64 nx) (vs' := #[.int .i64 nx, .int .i64 b, .int .i64 c, .int .i64 d]) rfl)
    clear H20
    have H25 := Lib.hid (H21.out.setCell (p := ⟨(w.heap.size + 1 + 1), 0, none⟩) (show w.heap.size ≤ (w.heap.size + 1 + 1) by omega) (.int .i64 nx))
    clear H21
    obtain ⟨WE, hWE⟩ : ∃ z, (wc.setCell ⟨(w.heap.size + 1 + 1), 0, none⟩ (.int .i64 nx)) = z := ⟨_, rfl⟩
    rw [hWE] at H22 H23 H24 H25 ⊢
    clear hWE xS0 xS1 zS xO0 xO1 xO2 xO3 zO yO0
    have HBX := Lib.hid H25.out
    have HRZ := Lib.hid (show (w.heap.size + 1) < WE.heap.size from H23.out.2.2)
    have HRW := Lib.hid (show w.heap.size ≤ (w.heap.size + 1) by omega)
    obtain ⟨lit, hlit⟩ : ∃ lit : (Nat → Value) → Act, lit = fun vs => { tmps := List.toArray (Value.agg #[Value.int IntKind.i64 nx, Value.slice sa L.length sc] :: Value.int IntKind.i64 b :: Value.int IntKind.i64 c :: Value.int IntKind.i64 d :: Value.pointer (some { block := w.heap.size, off := 0 }) :: undef :: undef :: undef :: Value.pointer (some { block := w.heap.size + 1, off := 0 }) :: vs 12 :: Value.pointer (some { block := w.heap.size + 1 + 1, off := 0 }) :: Value.int IntKind.i64 b :: Value.int IntKind.i64 c :: Value.int IntKind.i64 d :: Value.agg #[Value.int IntKind.i64 0, Value.int IntKind.i64 b, Value.int IntKind.i64 c, Value.int IntKind.i64 d] :: Value.agg #[Value.int IntKind.i64 nx, Value.slice sa L.length sc] :: Value.bool true :: Value.bool false :: Value.bool false :: Value.agg #[Value.int IntKind.i64 0, Value.int IntKind.i64 b, Value.int IntKind.i64 c, Value.int IntKind.i64 d] :: Value.bool true :: Value.bool false :: Value.bool false :: undef :: Value.pointer (some { block := w.heap.size, off := 0 }) :: Value.int IntKind.i64 nx :: Value.bool false :: undef :: u28 :: u29 :: u30 :: u31 :: u32 :: u33 :: u34 :: u35 :: u36 :: u37 :: u38 :: u39 :: u40 :: u41 :: Value.bool false :: undef :: Value.pointer (some { block := w.heap.size, off := 0 }) :: Value.int IntKind.i64 nx :: Value.pointer (some { block := w.heap.size + 1 + 1, off := 0 }) :: vs 0 :: vs 1 :: vs 2 :: vs 3 :: vs 4 :: vs 5 :: vs 6 :: vs 7 :: vs 8 :: vs 9 :: vs 10 :: []), defers := [] } := ⟨_, rfl⟩
    have HLIT := Lib.hid hlit
    clear hlit
    obtain ⟨val, hval⟩ : ∃ val : List Value, val = [.pointer (some ⟨(w.heap.size), 0, none⟩), .int .i64 nx, .int .i64 (nx + 1), undef, .pointer (some ⟨(w.heap.size), 1, none⟩), .slice sa L.length sc, undef, .agg #[.int .i64 nx, .int .i64 b, .int .i64 c, .int .i64 d], undef, undef, undef, undef, .int .i64 0] := ⟨_, rfl⟩
    have E0 := Lib.hid (show val.getD 0 undef = .pointer (some ⟨(w.heap.size), 0, none⟩) by rw [hval]; rfl)
    have E1 := Lib.hid (show val.getD 1 undef = .int .i64 nx by rw [hval]; rfl)
    have E2 := Lib.hid (show val.getD 2 undef = .int .i64 (nx + 1) by rw [hval]; rfl)
    have E4 := Lib.hid (show val.getD 4 undef = .pointer (some ⟨(w.heap.size), 1, none⟩) by rw [hval]; rfl)
    have E5 := Lib.hid (show val.getD 5 undef = .slice sa L.length sc by rw [hval]; rfl)
    have E7 := Lib.hid (show val.getD 7 undef = .agg #[.int .i64 nx, .int .i64 b, .int .i64 c, .int .i64 d] by rw [hval]; rfl)
    have E12 := Lib.hid (show val.getD 12 undef = .int .i64 0 by rw [hval]; rfl)
    clear hval
    obtain ⟨G, hG0⟩ : ∃ G : Bool → Nat → Value → World → Prop, G = (fun bq iq vq ww => (iq = 3 → ∃ g8 : Nat, vq = .slice (some ⟨g8, 0, none⟩) 0 0 ∧ (bq = false → ww.ownsRow WE.heap.size 32 4 vq 0 [])) ∧ (iq = 6 → ∃ (a8 : Option Addr) (c8 : Nat), vq = .slice a8 L.length c8 ∧ (bq = false → ww.ownsRow WE.heap.size 32 4 (.slice a8 L.length c8) L.length (ocs L))) ∧ (iq = 8 → Qbx ⟨nx, b, c, d⟩ bq vq ww) ∧ (iq = 9 → ∃ (a8 : Option Addr) (c8 : Nat), vq = .slice a8 LX.length c8 ∧ (bq = true → OdsAt ww (.slice a8 LX.length c8) LX ∧ ∀ g o, a8 = some ⟨g, o, none⟩ → WE.heap.size ≤ g)) ∧ (iq = 10 → ∃ (a8 : Option Addr) (c8 : Nat), vq = .agg #[.int .i64 (nx + 1), .slice a8 LX.length c8] ∧ (bq = true → OdsAt ww (.slice a8 LX.length c8) LX ∧ ∀ g o, a8 = some ⟨g, o, none⟩ → WE.heap.size ≤ g)) ∧ (iq = 11 → bq = true → ∃ (a8 : Option Addr) (c8 : Nat), Cs ww (w.heap.size + 1) #[.int .i64 (nx + 1), .slice a8 LX.length c8] ∧ OdsAt ww (.slice a8 LX.length c8) LX) ∧ (iq ≠ 3 → iq ≠ 6 → iq ≠ 8 → iq ≠ 9 → iq ≠ 10 → iq ≠ 11 → vq = val.getD iq undef)) := ⟨_, rfl⟩
    have HG := Lib.hid hG0
    clear hG0
    refine region_inv (NS lit 9 (fun p q => (p == 9 && q == 6) || (p == 9 && q == 8) || (p == 6 && q == 3) || (p == 6 && q == 5) || (p == 8 && q == 7) || (p == 11 && q == 10) || (p == 10 && q == 9) || (p == 11 && q == 9)) G fun bq wv => (bq = false → Below WE.heap.size WE wv) ∧ (bq = true → Below w.heap.size w wv ∧ (∃ z0 z1, Cs wv (w.heap.size + 1) #[z0, z1]) ∧ Cs wv (w.heap.size) #[.int .i64 nx, .slice sa L.length sc])) (by kernel_rfl) (by decide +kernel) ?_ ?_ ?_
    · exact NS.start (fun i => ([undef, undef, undef, undef, undef, undef, undef, undef, undef, undef, undef, undef, Value.int IntKind.i64 0] : List Value).getD i undef) (by rw [HLIT.out]; rfl) ⟨fun _ => below_drew _ _, fun h => (by cases h)⟩
    · refine ⟨?_, ?_, ?_, ?_, ?_, ?_, ?_, ?_, ?_, ?_, ?_, ?_, ?_, trivial⟩
      · intro bf ac wv hfb haf hJ K' hK
        obtain ⟨vs, rfl, ja, hB, j4⟩ := hJ
        replace hK := Lib.hid hK
        rw [HG.out] at j4
        replace j4 := Lib.hid (And.intro ja j4)
        replace hB := Lib.hid hB
        clear ja haf
        rw [HLIT.out]
        go_simp
        exact hK.out _ _ (NS.next (vs := vs) 0 (by omega) (fun q h => absurd h (by simp)) (x := .pointer (some ⟨(w.heap.size), 0, none⟩)) (by rw [HLIT.out]; rfl) (by rw [HG.out]; exact j4.out) hB.out (by rw [HG.out]; exact fun _ _ h => h) (by rw [HG.out]; exact ⟨fun h => absurd h (by decide), fun h => absurd h (by decide), fun h => absurd h (by decide), fun h => absurd h (by decide), fun h => absurd h (by decide), fun h => absurd h (by decide), fun _ _ _ _ _ _ => E0.out.symm⟩))
      · intro bf ac wv hfb haf hJ K' hK
        obtain ⟨vs, rfl, ja, hB, j4⟩ := hJ
        replace hK := Lib.hid hK
        simp [Region.binds] at haf
        rw [HG.out] at j4
        have e0 := ((j4 0 (by simp [haf])).2.2.2.2.2.2 (by decide) (by decide) (by decide) (by decide) (by decide) (by decide)).trans E0.out
        replace j4 := Lib.hid (And.intro ja j4)
        replace hB := Lib.hid hB
        clear ja haf
        have hq9 : Cs wv (w.heap.size) #[.int .i64 nx, .slice sa L.length sc] := by
          cases hbb : bf 9 with
          | false => exact H22.out.step (hB.out.1 hbb)
          | true => exact (hB.out.2 hbb).2.2
        have xS0 := hq9.c 0 rfl
        have xSz := hq9.2.2
        clear hq9
        rw [HLIT.out]
        go_simp
        exact hK.out _ _ (NS.next (vs := vs) 1 (by omega) (fun q h => absurd h (by simp)) (x := .int .i64 nx) (by rw [HLIT.out]; simp only [upv, e0, Nat.reduceBEq, cond_true, cond_false]) (by rw [HG.out]; exact j4.out) hB.out (by rw [HG.out]; exact fun _ _ h => h) (by rw [HG.out]; exact ⟨fun h => absurd h (by decide), fun h => absurd h (by decide), fun h => absurd h (by decide), fun h => absurd h (by decide), fun h => absurd h (by decide), fun h => absurd h (by decide), fun _ _ _ _ _ _ => E1.out.symm⟩))
      · intro bf ac wv hfb haf hJ K' hK
        obtain ⟨vs, rfl, ja, hB, j4⟩ := hJ
        replace hK := Lib.hid hK
        simp [Region.binds] at haf
        rw [HG.out] at j4
        have e1 := ((j4 1 (by simp [haf])).2.2.2.2.2.2 (by decide) (by decide) (by decide) (by decide) (by decide) (by decide)).trans E1.out
        replace j4 := Lib.hid (And.intro ja j4)
        replace hB := Lib.hid hB
        clear ja haf
        rw [HLIT.out]
        go_simp
        exact hK.out _ _ (NS.next (vs := vs) 2 (by omega) (fun q h => absurd h (by simp)) (x := .int .i64 (nx + 1)) (by rw [HLIT.out]; simp only [upv, e1, HW17.out, Nat.reduceBEq, cond_true, cond_false]) (by rw [HG.out]; exact j4.out) hB.out (by rw [HG.out]; exact fun _ _ h => h) (by rw [HG.out]; exact ⟨fun h => absurd h (by decide), fun h => absurd h (by decide), fun h => absurd h (by decide), fun h => absurd h (by decide), fun h => absurd h (by decide), fun h => absurd h (by decide), fun _ _ _ _ _ _ => E2.out.symm⟩))
      · intro bf ac wv hfb haf hJ K' hK
        obtain ⟨vs, rfl, ja, hB, j4⟩ := hJ
        replace hK := Lib.hid hK
        rw [HG.out] at j4
        have hd : bf 9 = false := by
          cases h : bf 9
          · rfl
          · exact absurd ((ja 6 3 rfl (ja 9 6 rfl h)).symm.trans hfb) (by simp)
        have hM := Lib.hid (hB.1 hd)
        replace j4 := Lib.hid (And.intro ja j4)
        replace hB := Lib.hid hB
        clear ja haf
        rw [HLIT.out]
        go_simp
        have b4 := al wv (.cells #[] 32)
        exact hK.out _ _ (NS.next (vs := vs) 3 (by omega) (fun q h => absurd h (by simp)) (x := (.slice (some ⟨wv.heap.size, 0, none⟩) 0 0)) (by rw [HLIT.out]; rfl) (by rw [HG.out]; exact j4.out) ⟨fun _ => keep2 b4 hM.out, fun e => absurd (e.symm.trans hd) (by simp)⟩ (by rw [HG.out]; exact fun k hbk h => ⟨fun q => (by obtain ⟨g8, q1, q2⟩ := (h.1 q); exact ⟨g8, q1, fun e => row_step (q2 e) b4⟩), fun q => (by obtain ⟨a8, c8, q1, q2⟩ := (h.2.1 q); exact ⟨a8, c8, q1, fun e => row_step (q2 e) b4⟩), fun q => (h.2.2.1 q).step b4, fun q => (by obtain ⟨a8, c8, q1, q2⟩ := (h.2.2.2.1 q); exact ⟨a8, c8, q1, fun e => absurd (e.symm.trans hd) (by simp)⟩), fun q => (by obtain ⟨a8, c8, q1, q2⟩ := (h.2.2.2.2.1 q); exact ⟨a8, c8, q1, fun e => absurd (e.symm.trans hd) (by simp)⟩), fun q => (fun e => absurd (e.symm.trans hd) (by simp)), h.2.2.2.2.2.2⟩) (by rw [HG.out]; exact ⟨fun _ => ⟨wv.heap.size, rfl, fun _ => ⟨rfl, .inr ⟨wv.heap.size, 0, _, rfl, hM.out.size, heap_alloc_new _ _, by omega, by unfold maxLen; omega, rfl, rfl⟩⟩⟩, fun h => absurd h (by decide), fun h => absurd h (by decide), fun h => absurd h (by decide), fun h => absurd h (by decide), fun h => absurd h (by decide), fun h3 => absurd rfl h3⟩))
      · intro bf ac wv hfb haf hJ K' hK
        obtain ⟨vs, rfl, ja, hB, j4⟩ := hJ
        replace hK := Lib.hid hK
        rw [HG.out] at j4
        replace j4 := Lib.hid (And.intro ja j4)
        replace hB := Lib.hid hB
        clear ja haf
        rw [HLIT.out]
        go_simp
        exact hK.out _ _ (NS.next (vs := vs) 4 (by omega) (fun q h => absurd h (by simp)) (x := .pointer (some ⟨(w.heap.size), 1, none⟩)) (by rw [HLIT.out]; rfl) (by rw [HG.out]; exact j4.out) hB.out (by rw [HG.out]; exact fun _ _ h => h) (by rw [HG.out]; exact ⟨fun h => absurd h (by decide), fun h => absurd h (by decide), fun h => absurd h (by decide), fun h => absurd h (by decide), fun h => absurd h (by decide), fun h => absurd h (by decide), fun _ _ _ _ _ _ => E4.out.symm⟩))
      · intro bf ac wv hfb haf hJ K' hK
        obtain ⟨vs, rfl, ja, hB, j4⟩ := hJ
        replace hK := Lib.hid hK
        simp [Region.binds] at haf
        rw [HG.out] at j4
        have e4 := ((j4 4 (by simp [haf])).2.2.2.2.2.2 (by decide) (by decide) (by decide) (by decide) (by decide) (by decide)).trans E4.out
        have hd : bf 9 = false := by
          cases h : bf 9
          · rfl
          · exact absurd ((ja 6 5 rfl (ja 9 6 rfl h)).symm.trans hfb) (by simp)
        have hM := Lib.hid (hB.1 hd)
        replace j4 := Lib.hid (And.intro ja j4)
        replace hB := Lib.hid hB
        clear ja haf
        have xS1 := (H22.out.step hM.out).c 1 rfl
        have xSz := (H22.out.step hM.out).2.2
        rw [HLIT.out]
        go_simp
        exact hK.out _ _ (NS.next (vs := vs) 5 (by omega) (fun q h => absurd h (by simp)) (x := .slice sa L.length sc) (by rw [HLIT.out]; simp only [upv, e4, Nat.reduceBEq, cond_true, cond_false]) (by rw [HG.out]; exact j4.out) hB.out (by rw [HG.out]; exact fun _ _ h => h) (by rw [HG.out]; exact ⟨fun h => absurd h (by decide), fun h => absurd h (by decide), fun h => absurd h (by decide), fun h => absurd h (by decide), fun h => absurd h (by decide), fun h => absurd h (by decide), fun _ _ _ _ _ _ => E5.out.symm⟩))
      · intro bf ac wv hfb haf hJ K' hK
        obtain ⟨vs, rfl, ja, hB, j4⟩ := hJ
        replace hK := Lib.hid hK
        simp [Region.binds] at haf
        rw [HG.out] at j4
        have e3 := (j4 3 (by simp [haf])).1 rfl
        have e5 := ((j4 5 (by simp [haf])).2.2.2.2.2.2 (by decide) (by decide) (by decide) (by decide) (by decide) (by decide)).trans E5.out
        have hd : bf 9 = false := by
          cases h : bf 9
          · rfl
          · exact absurd ((ja 9 6 rfl h).symm.trans hfb) (by simp)
        have hM := Lib.hid (hB.1 hd)
        have HA := Lib.hid (show ∀ q, (fun p q => (p == 9 && q == 6) || (p == 9 && q == 8) || (p == 6 && q == 3) || (p == 6 && q == 5) || (p == 8 && q == 7) || (p == 11 && q == 10) || (p == 10 && q == 9) || (p == 11 && q == 9)) 6 q = true → bf q = true from fun q hi => by
          obtain rfl | rfl : q = 3 ∨ q = 5 := by simpa [or_assoc] using hi
          all_goals simp [haf])
        replace j4 := Lib.hid (And.intro ja j4)
        replace hB := Lib.hid hB
        clear ja haf
        obtain ⟨g3, e3, hr3⟩ := e3
        replace hr3 := hr3 hd
        rw [e3] at hr3
        obtain ⟨a6, c6, w6, hr6, b4, ho6⟩ := app_list (HS.out.step (keep2 hM.out HBX.out)) hr3 H9.out hM.out.size
        rw [HLIT.out]
        refine step_app rfl _ _ 22 rfl _ _ _ e3 e5 hr6 ?_
        exact hK.out _ _ (NS.next (vs := vs) 6 (by omega) (HA.out) (x := (.slice a6 L.length c6)) (by rw [HLIT.out]; rfl) (by rw [HG.out]; exact j4.out) ⟨fun _ => keep2 b4 hM.out, fun e => absurd (e.symm.trans hd) (by simp)⟩ (by rw [HG.out]; exact fun k hbk h => ⟨fun q => (by obtain ⟨g8, q1, q2⟩ := (h.1 q); exact ⟨g8, q1, fun e => row_step (q2 e) b4⟩), fun q => (by obtain ⟨a8, c8, q1, q2⟩ := (h.2.1 q); exact ⟨a8, c8, q1, fun e => row_step (q2 e) b4⟩), fun q => (h.2.2.1 q).step b4, fun q => (by obtain ⟨a8, c8, q1, q2⟩ := (h.2.2.2.1 q); exact ⟨a8, c8, q1, fun e => absurd (e.symm.trans hd) (by simp)⟩), fun q => (by obtain ⟨a8, c8, q1, q2⟩ := (h.2.2.2.2.1 q); exact ⟨a8, c8, q1, fun e => absurd (e.symm.trans hd) (by simp)⟩), fun q => (fun e => absurd (e.symm.trans hd) (by simp)), h.2.2.2.2.2.2⟩) (by rw [HG.out]; exact ⟨fun h => absurd h (by decide), fun _ => ⟨a6, c6, rfl, fun _ => ho6⟩, fun h => absurd h (by decide), fun h => absurd h (by decide), fun h => absurd h (by decide), fun h => absurd h (by decide), fun h3 => fun h6 => absurd rfl h6⟩))
      · intro bf ac wv hfb haf hJ K' hK
        obtain ⟨vs, rfl, ja, hB, j4⟩ := hJ
        replace hK := Lib.hid hK
        rw [HG.out] at j4
        have hd : bf 9 = false := by
          cases h : bf 9
          · rfl
          · exact absurd ((ja 8 7 rfl (ja 9 8 rfl h)).symm.trans hfb) (by simp)
        have hM := Lib.hid (hB.1 hd)
        replace j4 := Lib.hid (And.intro ja j4)
        replace hB := Lib.hid hB
        clear ja haf
        have xO0 := (H24.out.step hM.out).c 0 rfl
        have xO1 := (H24.out.step hM.out).c 1 rfl
        have xO2 := (H24.out.step hM.out).c 2 rfl
        have xO3 := (H24.out.step hM.out).c 3 rfl
        have xOz := (H24.out.step hM.out).2.2
        rw [HLIT.out]
        go_simp
        exact hK.out _ _ (NS.next (vs := vs) 7 (by omega) (fun q h => absurd h (by simp)) (x := .agg #[.int .i64 nx, .int .i64 b, .int .i64 c, .int .i64 d]) (by rw [HLIT.out]; rfl) (by rw [HG.out]; exact j4.out) hB.out (by rw [HG.out]; exact fun _ _ h => h) (by rw [HG.out]; exact ⟨fun h => absurd h (by decide), fun h => absurd h (by decide), fun h => absurd h (by decide), fun h => absurd h (by decide), fun h => absurd h (by decide), fun h => absurd h (by decide), fun _ _ _ _ _ _ => E7.out.symm⟩))
      · intro bf ac wv hfb haf hJ K' hK
        obtain ⟨vs, rfl, ja, hB, j4⟩ := hJ
        replace hK := Lib.hid hK
        simp [Region.binds] at haf
        rw [HG.out] at j4
        have e7 := ((j4 7 (by simp [haf])).2.2.2.2.2.2 (by decide) (by decide) (by decide) (by decide) (by decide) (by decide)).trans E7.out
        have hd : bf 9 = false := by
          cases h : bf 9
          · rfl
          · exact absurd ((ja 9 8 rfl h).symm.trans hfb) (by simp)
        have hM := Lib.hid (hB.1 hd)
        have HA := Lib.hid (show ∀ q, (fun p q => (p == 9 && q == 6) || (p == 9 && q == 8) || (p == 6 && q == 3) || (p == 6 && q == 5) || (p == 8 && q == 7) || (p == 11 && q == 10) || (p == 10 && q == 9) || (p == 11 && q == 9)) 8 q = true → bf q = true from fun q hi => by
          obtain rfl : q = 7 := by simpa [or_assoc] using hi
          all_goals simp [haf])
        replace j4 := Lib.hid (And.intro ja j4)
        replace hB := Lib.hid hB
        clear ja haf
        rw [HLIT.out]
        go_simp
        have b4 := al wv (.cells #[.int .i64 nx, .int .i64 b, .int .i64 c, .int .i64 d] 32)
        exact hK.out _ _ (NS.next (vs := vs) 8 (by omega) (HA.out) (x := (.slice (some ⟨wv.heap.size, 0, none⟩) 1 1)) (by rw [HLIT.out]; simp only [upv, e7, Nat.reduceBEq, cond_true, cond_false]) (by rw [HG.out]; exact j4.out) ⟨fun _ => keep2 b4 hM.out, fun e => absurd (e.symm.trans hd) (by simp)⟩ (by rw [HG.out]; exact fun k hbk h => ⟨fun q => (by obtain ⟨g8, q1, q2⟩ := (h.1 q); exact ⟨g8, q1, fun e => row_step (q2 e) b4⟩), fun q => (by obtain ⟨a8, c8, q1, q2⟩ := (h.2.1 q); exact ⟨a8, c8, q1, fun e => row_step (q2 e) b4⟩), fun q => (h.2.2.1 q).step b4, fun q => (by obtain ⟨a8, c8, q1, q2⟩ := (h.2.2.2.1 q); exact ⟨a8, c8, q1, fun e => absurd (e.symm.trans hd) (by simp)⟩), fun q => (by obtain ⟨a8, c8, q1, q2⟩ := (h.2.2.2.2.1 q); exact ⟨a8, c8, q1, fun e => absurd (e.symm.trans hd) (by simp)⟩), fun q => (fun e => absurd (e.symm.trans hd) (by simp)), h.2.2.2.2.2.2⟩) (by rw [HG.out]; exact ⟨fun h => absurd h (by decide), fun h => absurd h (by decide), fun _ => ⟨wv.heap.size, rfl, fun _ => BoxN.new wv #[.int .i64 nx, .int .i64 b, .int .i64 c, .int .i64 d] 32⟩, fun h => absurd h (by decide), fun h => absurd h (by decide), fun h => absurd h (by decide), fun h3 => fun h6 => fun h8 => absurd rfl h8⟩))
      · intro bf ac wv hfb haf hJ K' hK
        obtain ⟨vs, rfl, ja, hB, j4⟩ := hJ
        replace hK := Lib.hid hK
        simp [Region.binds] at haf
        rw [HG.out] at j4
        have e6 := (j4 6 (by simp [haf])).2.1 rfl
        have e8 := (j4 8 (by simp [haf])).2.2.1 rfl
        rw [hfb] at j4 hB
        try rw [hfb] at e6
        try rw [hfb] at e8
        have HA := Lib.hid (show ∀ q, (fun p q => (p == 9 && q == 6) || (p == 9 && q == 8) || (p == 6 && q == 3) || (p == 6 && q == 5) || (p == 8 && q == 7) || (p == 11 && q == 10) || (p == 10 && q == 9) || (p == 11 && q == 9)) 9 q = true → bf q = true from fun q hi => by
          obtain rfl | rfl : q = 6 ∨ q = 8 := by simpa [or_assoc] using hi
          all_goals simp [haf])
        have hz10 : bf 10 = false := by
          cases h : bf 10
          · rfl
          · exact absurd ((ja 10 9 rfl h).symm.trans hfb) (by simp)
        have hz11 : bf 11 = false := by
          cases h : bf 11
          · rfl
          · exact absurd ((ja 11 9 rfl h).symm.trans hfb) (by simp)
        have hM := Lib.hid (hB.1 rfl)
        replace j4 := Lib.hid j4
        have HE := Lib.hid (And.intro ja HA.out)
        clear ja haf hB HA
        obtain ⟨a6, c6, e6, hr6⟩ := e6
        replace hr6 := hr6 rfl
        obtain ⟨g8, e8, hbx⟩ := e8
        replace hbx := hbx rfl
        obtain ⟨a9, c9, w9, hr9, hg9, ho9, ha9⟩ := app_row (x := ⟨nx, b, c, d⟩) hr6 hbx H9.out HLX.out hM.out.size
        have hcR := cs_kept (H23.out.step hM.out) hg9 (nb_own rfl hr6 (fun g o q => by have h1 := row_adrD hr6 g o q; have h2 := HRZ.out; omega))
        have hcS := cs_kept (H22.out.step hM.out) hg9 (nb_own rfl hr6 (fun g o q => by have h1 := row_adrD hr6 g o q; have h2 := HRZ.out; omega))
        have hfr : ∀ g o, a9 = some ⟨g, o, none⟩ → WE.heap.size ≤ g := row_adrD ho9
        rw [HLIT.out]
        refine step_app rfl _ _ 22 rfl _ _ _ e6 e8 hr9 ?_
        refine hK.out _ _ (NS.piv (vs := vs) (x := .slice a9 LX.length c9) (by rw [HLIT.out]; rfl) HE.out ⟨fun e => (by cases e), fun _ => ⟨((HBX.out.trans (hM.out.mono HBX.out.size))).grown hg9 (Nat.le_trans HBX.out.size hM.out.size) (fun kk ek => Nat.le_trans HBX.out.size (row_own hr6 ek)), ⟨_, _, hcR⟩, hcS⟩⟩ (fun j hj hb => ?_) (by rw [HG.out]; exact ⟨fun h => absurd h (by decide), fun h => absurd h (by decide), fun h => absurd h (by decide), fun _ => ⟨a9, c9, rfl, fun _ => ⟨ods_of_row rfl ho9, hfr⟩⟩, fun h => absurd h (by decide), fun h => absurd h (by decide), fun h3 => fun h6 => fun h8 => fun h9 => absurd rfl h9⟩))
        rw [HG.out]
        have q := j4.out j hb
        refine ⟨fun h => ?_, fun h => ?_, fun h => (q.2.2.1 h).put _, fun h => absurd h hj, fun h => (by rw [h, hz10] at hb; cases hb), fun h => (by rw [h, hz11] at hb; cases hb), q.2.2.2.2.2.2⟩
        · obtain ⟨g8, q1, -⟩ := q.1 h
          exact ⟨g8, q1, fun e => (by cases e)⟩
        · obtain ⟨a8, c8, q1, -⟩ := q.2.1 h
          exact ⟨a8, c8, q1, fun e => (by cases e)⟩
      · intro bf ac wv hfb haf hJ K' hK
        obtain ⟨vs, rfl, ja, hB, j4⟩ := hJ
        replace hK := Lib.hid hK
        simp [Region.binds] at haf
        rw [HG.out] at j4
        have e2 := ((j4 2 (by simp [haf])).2.2.2.2.2.2 (by decide) (by decide) (by decide) (by decide) (by decide) (by decide)).trans E2.out
        have e9 := (j4 9 (by simp [haf])).2.2.2.1 rfl
        have HA := Lib.hid (show ∀ q, (fun p q => (p == 9 && q == 6) || (p == 9 && q == 8) || (p == 6 && q == 3) || (p == 6 && q == 5) || (p == 8 && q == 7) || (p == 11 && q == 10) || (p == 10 && q == 9) || (p == 11 && q == 9)) 10 q = true → bf q = true from fun q hi => by
          obtain rfl : q = 9 := by simpa [or_assoc] using hi
          all_goals simp [haf])
        replace j4 := Lib.hid (And.intro ja j4)
        replace hB := Lib.hid hB
        clear ja haf
        obtain ⟨a9, c9, e9, h9⟩ := e9
        rw [HLIT.out]
        go_simp
        exact hK.out _ _ (NS.next (vs := vs) 10 (by omega) (HA.out) (x := (.agg #[.int .i64 (nx + 1), .slice a9 LX.length c9])) (by rw [HLIT.out]; simp only [upv, e2, e9, Nat.reduceBEq, cond_true, cond_false]) (by rw [HG.out]; exact j4.out) hB.out (by rw [HG.out]; exact fun _ _ h => h) (by rw [HG.out]; exact ⟨fun h => absurd h (by decide), fun h => absurd h (by decide), fun h => absurd h (by decide), fun h => absurd h (by decide), fun _ => ⟨a9, c9, rfl, h9⟩, fun h => absurd h (by decide), fun h3 => fun h6 => fun h8 => fun h9 => fun h10 => absurd rfl h10⟩))
      · intro bf ac wv hfb haf hJ K' hK
        obtain ⟨vs, rfl, ja, hB, j4⟩ := hJ
        replace hK := Lib.hid hK
        simp [Region.binds] at haf
        rw [HG.out] at j4
        have e10 := (j4 10 (by simp [haf])).2.2.2.2.1 rfl
        have hb9 : bf 9 = true := by simp [haf]
        have hb10 : bf 10 = true := by simp [haf]
        obtain ⟨a9, c9, e10, h9⟩ := e10
        replace h9 := Lib.hid (h9 hb9)
        have HMB := Lib.hid (hB.2 hb9)
        replace j4 := Lib.hid (And.intro ja j4)
        clear ja haf hB
        obtain ⟨z0, z1, hcz⟩ := HMB.out.2.1
        have x0 := hcz.c 0 rfl
        have x1 := hcz.c 1 rfl
        have y0 := hcz.f 0 (by simp)
        have y1 := hcz.f 1 (by simp)
        have xz := hcz.2.2
        replace hcz := Lib.hid hcz
        rw [HLIT.out]
        go_simp
        have hgs := grown_trans (grown_set wv (w.heap.size + 1) 0 (.int .i64 (nx + 1))) (grown_set _ (w.heap.size + 1) 1 (.slice a9 LX.length c9))
        have hnb : nb a9 (w.heap.size + 1) := nb_fresh h9.out.2 HRZ.out
        have hcs := Cs.set (Cs.set hcz.out 0 (by simp) (.int .i64 (nx + 1)) rfl) 1 (by simp) (.slice a9 LX.length c9) rfl
        have hods := ods_kept h9.out.1 hgs (fun _ => nb_some hnb)
        refine hK.out _ _ (NS.next (vs := vs) 11 (by omega) (fun q h => by
          obtain rfl | rfl : q = 10 ∨ q = 9 := by simpa using h
          · exact hb10
          · exact hb9) (x := undef) (by rw [HLIT.out]; simp only [upv, e10, Nat.reduceBEq, cond_false]) (by rw [HG.out]; exact j4.out) ⟨fun e => absurd (e.symm.trans hb9) (by simp), fun _ => ⟨(HMB.out.1.setCell (p := ⟨(w.heap.size + 1), 0, none⟩) HRW.out _).setCell (p := ⟨(w.heap.size + 1), 1, none⟩) HRW.out _, ⟨_, _, hcs⟩, cs_oth (cs_oth HMB.out.2.2 (by omega)) (by omega)⟩⟩ ?_ (by rw [HG.out]; exact ⟨fun h => absurd h (by decide), fun h => absurd h (by decide), fun h => absurd h (by decide), fun h => absurd h (by decide), fun h => absurd h (by decide), fun _ => fun _ => ⟨a9, c9, hcs, hods⟩, fun h3 => fun h6 => fun h8 => fun h9 => fun h10 => fun h11 => absurd rfl h11⟩))
        rw [HG.out, hb9]
        intro kk hbk hh
        refine ⟨fun q => ?_, fun q => ?_, fun q => (hh.2.2.1 q).put _, fun q => ?_, fun q => ?_, fun q => (by rw [q, hfb] at hbk; cases hbk), hh.2.2.2.2.2.2⟩
        · obtain ⟨g8, q1, -⟩ := hh.1 q
          exact ⟨g8, q1, fun e => (by cases e)⟩
        · obtain ⟨a8, c8, q1, -⟩ := hh.2.1 q
          exact ⟨a8, c8, q1, fun e => (by cases e)⟩
        · obtain ⟨a8, c8, q1, q2⟩ := hh.2.2.2.1 q
          exact ⟨a8, c8, q1, fun e => ⟨ods_kept (q2 e).1 hgs (fun _ => nb_some (nb_fresh (q2 e).2 HRZ.out)), (q2 e).2⟩⟩
        · obtain ⟨a8, c8, q1, q2⟩ := hh.2.2.2.2.1 q
          exact ⟨a8, c8, q1, fun e => ⟨ods_kept (q2 e).1 hgs (fun _ => nb_some (nb_fresh (q2 e).2 HRZ.out)), (q2 e).2⟩⟩
      · intro bf ac wv hfb haf hJ K' hK
        obtain ⟨vs, rfl, ja, hB, j4⟩ := hJ
        replace hK := Lib.hid hK
        rw [HG.out] at j4
        replace j4 := Lib.hid (And.intro ja j4)
        replace hB := Lib.hid hB
        clear ja haf
        rw [HLIT.out]
        go_simp
        exact hK.out _ _ (NS.next (vs := vs) 12 (by omega) (fun q h => absurd h (by simp)) (x := .int .i64 0) (by rw [HLIT.out]; rfl) (by rw [HG.out]; exact j4.out) hB.out (by rw [HG.out]; exact fun _ _ h => h) (by rw [HG.out]; exact ⟨fun h => absurd h (by decide), fun h => absurd h (by decide), fun h => absurd h (by decide), fun h => absurd h (by decide), fun h => absurd h (by decide), fun h => absurd h (by decide), fun _ _ _ _ _ _ => E12.out.symm⟩))
    · intro bf ac wv hall hJ
      obtain ⟨vs, rfl, -, hB, j4⟩ := hJ
      rw [HG.out] at j4
      rw [hall 9 (by decide)] at hB j4
      have hM := Lib.hid (hB.2 rfl)
      clear hB
      have e12 := ((j4 12 (hall 12 (by decide))).2.2.2.2.2.2 (by decide) (by decide) (by decide) (by decide) (by decide) (by decide)).trans E12.out
      obtain ⟨a9, c9, hc9, ho9⟩ := (j4 11 (hall 11 (by decide))).2.2.2.2.2.1 rfl (by simp)
      have HP9 := Lib.hid ho9
      have HB9 := Lib.hid hM.out.1
      have HC9 := Lib.hid (show LX.length ≤ c9 by obtain ⟨a', c', hv', hl', -, -⟩ := ho9; simp at hv'; omega)
      have k0 := hc9.c 0 rfl
      have k1 := hc9.c 1 rfl
      clear hM j4 hall ho9 hc9
      rw [HLIT.out]
      dsimp only
      rw [e12]
      clear e12
      go_wp2
      exact bodyPost_ret (v := .tuple #[.agg #[.int .i64 (nx + 1), .slice a9 LX.length c9], .int .i64 0]) (by simp [results, Try.results12, go_sem, k0, k1]) rfl ⟨c9, a9, rfl, HP9.out, HC9.out, HB9.out⟩

theorem cs_below {w w' : World} {k B : Nat} {vs : Array Value} (h : Cs w k vs) (hb : Below B w w') (hk : k < B) : Cs w' k vs := cs_block h (hb.block k hk) hb.size
/-- The orders that are left. -/
def flt (seq : Int) (L : List Od) : List Od := L.filter fun x => !(x.a == seq)
theorem flt_yes {seq : Int} {L : List Od} {k : Nat} {x : Od} (h : L[k]? = some x) (hx : x.a = seq) : flt seq (L.take (k + 1)) = flt seq (L.take k) := by
  unfold flt
  rw [List.take_add_one, h, List.filter_append]
  simp [hx]
theorem flt_no {seq : Int} {L : List Od} {k : Nat} {x : Od} (h : L[k]? = some x) (hx : x.a ≠ seq) : flt seq (L.take (k + 1)) = flt seq (L.take k) ++ [x] := by
  unfold flt
  rw [List.take_add_one, h, List.filter_append]
  simp [hx]
theorem flt_all {seq : Int} {L : List Od} (h : ∀ x ∈ L, x.a ≠ seq) : flt seq L = L := by
  unfold flt
  rw [List.filter_eq_self]
  intro x hx
  simp [h x hx]
theorem flt_cf {nx seq : Int} {L : List Od} (h : SnP nx L) : flt seq L = cfL nx seq L true := by
  unfold cfL
  cases hf : fdI seq L 0 with
  | none =>
    refine flt_all fun x hx => ?_
    obtain ⟨i, hi⟩ := List.getElem?_of_mem hx
    have := fdI_none.1 hf i (List.getElem?_eq_some_iff.1 hi).1
    rwa [List.getD_eq_getElem?_getD, hi] at this
  | some i =>
    obtain ⟨-, hi, he, hb⟩ := fdI_some.1 hf
    simp only [Nat.sub_zero] at hi he hb
    obtain ⟨x, hx⟩ : ∃ x, L[i]? = some x := ⟨_, List.getElem?_eq_getElem hi⟩
    have hxa : x.a = seq := by rw [List.getD_eq_getElem?_getD, hx] at he; exact he
    have e1 : L = L.take (i + 1) ++ L.drop (i + 1) := (List.take_append_drop _ _).symm
    have e2 : flt seq L = flt seq (L.take (i + 1)) ++ flt seq (L.drop (i + 1)) := by
      conv => lhs; rw [e1]
      unfold flt
      rw [List.filter_append]
    rw [e2, flt_yes hx hxa, flt_all (L := L.take i), flt_all (L := L.drop (i + 1))]
    · intro y hy
      obtain ⟨j, hj⟩ := List.getElem?_of_mem hy
      rw [List.getElem?_drop] at hj
      have hjl := (List.getElem?_eq_some_iff.1 hj).1
      have h3 := sn_lt h (i := i) j (by omega)
      rw [show i + j + 1 = i + 1 + j by omega] at h3
      have h4 : (L.getD (i + 1 + j) zO) = y := by rw [List.getD_eq_getElem?_getD, hj]; rfl
      rw [h4, he] at h3
      omega
    · intro y hy
      obtain ⟨j, hj⟩ := List.getElem?_of_mem hy
      rw [List.getElem?_take] at hj
      split at hj
      · rename_i hji
        have := hb j hji
        rwa [List.getD_eq_getElem?_getD, hj] at this
      · cases hj
theorem flt_len (seq : Int) (L : List Od) (k : Nat) : (flt seq (L.take k)).length ≤ L.length := Nat.le_trans (List.length_filter_le _ _) (by rw [List.length_take]; omega)
set_option maxRecDepth 100000 in
set_option maxHeartbeats 8000000 in
theorem rconfirm_any (nx seq : Int) (sa : Option Addr) (sc : Nat) (L : List Od) (r : Bool) (hr : r = true ↔ SnP nx L) (w : World) (h : OdsAt w (.slice sa L.length sc) L) (h9 : L.length ≤ 100000) :
    Calls Try.prog 18 #[.agg #[.int .i64 nx, .slice sa L.length sc], .int .i64 seq] w (SdP w nx (cfL nx seq L r)) := by
  have HR := Lib.hid hr
  have H9 := Lib.hid h9
  have HL := Lib.hid h
  have HS0 := Lib.hid ((Cs.new w w.heap.size #[.int .i64 nx, .slice sa L.length sc] 24 rfl).alloc (.cells #[.int .i64 0, .slice none 0 0] 24))
  have HR0 := Lib.hid (Cs.new (w.alloc (.cells #[.int .i64 nx, .slice sa L.length sc] 24)) (w.heap.size + 1) #[.int .i64 0, .slice none 0 0] 24 (by simp))
  have HB0 := Lib.hid (al2 (w := w) (o1 := .cells #[.int .i64 nx, .slice sa L.length sc] 24) (o2 := .cells #[.int .i64 0, .slice none 0 0] 24))
  have hm : L.length ≤ maxLen := by unfold maxLen; omega
  unfold maxLen at hm
  clear h hr h9
  go_enter Try.func18, Try.ntmps18
  have xs0 := HS0.out.c 0 rfl
  have xs1 := HS0.out.c 1 rfl
  have xsz := HS0.out.2.2
  go_wp2_with fail
  generalize (w.alloc (.cells #[.int .i64 nx, .slice sa L.length sc] 24)).alloc (.cells #[.int .i64 0, .slice none 0 0] 24) = wq at *
  refine (rsender_any nx sa sc L r HR.out _ (HL.out.step HB0.out)).mono ?_
  rintro e w1 ⟨rfl, b1⟩
  have HS1 := Lib.hid (HS0.out.step b1)
  have HR1 := Lib.hid (HR0.out.step b1)
  have HB1 := Lib.hid (keep2 b1 HB0.out)
  clear b1 xs0 xs1 xsz HS0 HR0 HB0
  have xs0 := HS1.out.c 0 rfl
  have xs1 := HS1.out.c 1 rfl
  have xsz := HS1.out.2.2
  cases r
  · have HE := Lib.hid (show cfL nx seq L false = L from rfl)
    have xr0 := HR1.out.c 0 rfl
    have xr1 := HR1.out.c 1 rfl
    have yr0 := HR1.out.f 0 (by simp)
    have yr1 := HR1.out.f 1 (by simp)
    have xrz := HR1.out.2.2
    go_wp2_with fail
    refine (fun (h : ∀ V : World, Cs V (w.heap.size + 1) #[.int .i64 nx, .slice sa L.length sc] → Below w.heap.size w V → bodyPost Try.prog Try.f18 _ Exit.ret _ V) => h _ (Cs.set (Cs.set HR1.out 0 (by simp) (.int .i64 nx) rfl) 1 (by simp) (.slice sa L.length sc) (vs' := #[.int .i64 nx, .slice sa L.length sc]) rfl) ((HB1.out.setCell (p := ⟨w.heap.size + 1, 0, none⟩) (by simp) _).setCell (p := ⟨w.heap.size + 1, 1, none⟩) (by simp) _)) ?_
    intro V hC hB
    have k0 : V.cell? ⟨w.heap.size + 1, 0, none⟩ = some (.int .i64 nx) := hC.c 0 rfl
    have k1 : V.cell? ⟨w.heap.size + 1, 1, none⟩ = some (.slice sa L.length sc) := hC.c 1 rfl
    exact bodyPost_ret (v := .agg #[.int .i64 nx, .slice sa L.length sc]) (by simp [results, Try.results18, go_sem, k0, k1]) rfl ⟨sc, sa, by rw [HE.out], by rw [HE.out]; exact HL.out.step hB, hB⟩
  have HE := Lib.hid (show flt seq L = cfL nx seq L true from flt_cf (HR.out.1 rfl))
  clear HR
  obtain ⟨T, hT⟩ : ∃ T, w1.heap.size = T := ⟨_, rfl⟩
  have HT1 := Lib.hid (show w.heap.size + 1 < T by rw [← hT]; exact HR1.out.2.2)
  have HTC := Lib.hid (show Cs (w1.alloc (.cells #[.int .i64 nx, .slice none 0 0] 24)) T #[.int .i64 nx, .slice none (flt seq (L.take 0)).length 0] from Cs.new w1 T _ 24 hT.symm)
  have HBW := Lib.hid (al w1 (.cells #[.int .i64 nx, .slice none 0 0] 24))
  have HWT := Lib.hid (show T < (w1.alloc (.cells #[.int .i64 nx, .slice none 0 0] 24)).heap.size from HTC.out.2.2)
  go_wp2_with fail
  try rw [hT]
  obtain ⟨WT, hWT⟩ : ∃ z, w1.alloc (.cells #[.int .i64 nx, .slice none 0 0] 24) = z := ⟨_, rfl⟩
  try rw [hWT] at HTC HBW HWT ⊢
  clear hWT xs0 xs1 xsz
  have HS2 := Lib.hid (HS1.out.step HBW.out)
  have HR2 := Lib.hid (HR1.out.step HBW.out)
  have HB2 := Lib.hid (keep2 HBW.out HB1.out)
  clear HS1 HR1 HB1 HBW
  go_loopw [6] (fun iv wr => ∃ k : Nat, k ≤ L.length ∧ iv = .int .i64 k ∧ Hid (∃ (ta : Option Addr) (tc : Nat), Cs wr T #[.int .i64 nx, .slice ta (flt seq (L.take k)).length tc] ∧ wr.ownsRow WT.heap.size 32 4 (.slice ta (flt seq (L.take k)).length tc) (flt seq (L.take k)).length (ocs (flt seq (L.take k)))) ∧ Hid (Below T WT wr)) (fun iv _ => L.length - (intOf iv).toNat)
  case atStart => exact ⟨0, by omega, rfl, Lib.hid ⟨none, 0, HTC.out, World.ownsRow_nil _ _ _ _⟩, Lib.hid (Below.refl _ _)⟩
  case round =>
    obtain ⟨k, hk, rfl, HI, HW⟩ := hrel
    obtain ⟨ta, tc, hcT, hrT⟩ := HI.out
    have HCT := Lib.hid hcT
    have HRT := Lib.hid hrT
    have HSr := Lib.hid (cs_below HS2.out HW.out (by have := HT1.out; omega))
    have HBr := Lib.hid (show Below w.heap.size w wr from HB2.out.trans (HW.out.mono (by have := HT1.out; omega)))
    have HLr := Lib.hid (HL.out.step HBr.out)
    have xs1 := HSr.out.c 1 rfl
    have xsz := HSr.out.2.2
    clear hcT hrT HI
    by_cases hlt : k < L.length
    rotate_left
    · obtain rfl : k = L.length := by omega
      have hft : flt seq (L.take L.length) = cfL nx seq L true := by rw [List.take_length]; exact HE.out
      rw [hft] at HCT HRT
      obtain ⟨LF, hLF⟩ : ∃ z, cfL nx seq L true = z := ⟨_, rfl⟩
      have HLF := Lib.hid hLF
      rw [hLF] at HCT HRT
      have HRr := Lib.hid (cs_below HR2.out HW.out (by have := HT1.out; omega))
      have xt0 := HCT.out.c 0 rfl
      have xt1 := HCT.out.c 1 rfl
      have xtz := HCT.out.2.2
      have xr0 := HRr.out.c 0 rfl
      have xr1 := HRr.out.c 1 rfl
      have yr0 := HRr.out.f 0 (by simp)
      have yr1 := HRr.out.f 1 (by simp)
      have xrz := HRr.out.2.2
      have hne : ¬ w.heap.size + 1 = T := by have := HT1.out; omega
      have hne2 : ¬ T = w.heap.size + 1 := by have := HT1.out; omega
      clear hft hLF
      go_wp2_with fail
      have HRS := Lib.hid (row_kept (row_kept HRT.out (grown_set wr (w.heap.size + 1) 0 (.int .i64 nx)) (nb_some (fun g o q => by have h1 := row_adrD HRT.out g o q; have h2 := HT1.out; have h3 := HWT.out; omega))) (grown_set _ (w.heap.size + 1) 1 (.slice ta LF.length tc)) (nb_some (fun g o q => by have h1 := row_adrD HRT.out g o q; have h2 := HT1.out; have h3 := HWT.out; omega)))
      refine (fun (h : ∀ V : World, Cs V (w.heap.size + 1) #[.int .i64 nx, .slice ta LF.length tc] → Below w.heap.size w V → V.ownsRow WT.heap.size 32 4 (.slice ta LF.length tc) LF.length (ocs LF) → bodyPost Try.prog Try.f18 _ Exit.ret _ V) => h _ (Cs.set (Cs.set HRr.out 0 (by simp) (.int .i64 nx) rfl) 1 (by simp) (.slice ta LF.length tc) (vs' := #[.int .i64 nx, .slice ta LF.length tc]) rfl) ((HBr.out.setCell (p := ⟨w.heap.size + 1, 0, none⟩) (by simp) _).setCell (p := ⟨w.heap.size + 1, 1, none⟩) (by simp) _) HRS.out) ?_
      intro V hC hB hO
      have k0 : V.cell? ⟨w.heap.size + 1, 0, none⟩ = some (.int .i64 nx) := hC.c 0 rfl
      have k1 : V.cell? ⟨w.heap.size + 1, 1, none⟩ = some (.slice ta LF.length tc) := hC.c 1 rfl
      exact bodyPost_ret (v := .agg #[.int .i64 nx, .slice ta LF.length tc]) (by simp [results, Try.results18, go_sem, k0, k1]) rfl ⟨tc, ta, by rw [HLF.out], by rw [HLF.out]; exact ods_of_row rfl hO, hB⟩
    obtain ⟨a1, c1, hv1, -, -, hcs1⟩ := HLr.out
    obtain ⟨rfl, rfl⟩ : sa = a1 ∧ sc = c1 := by simpa using hv1
    obtain ⟨b1, o1, rfl, hx1⟩ := hcs1 (by intro e; rw [e] at hlt; simp at hlt)
    obtain ⟨x, hkx⟩ : ∃ x, L[k]? = some x := ⟨_, List.getElem?_eq_getElem hlt⟩
    have HY := Lib.hid (hx1 k x hkx)
    have y0 := HY.out.1
    have yz : b1 < wr.heap.size := World.block_lt_of_cell? _ _ y0
    have t1 : (k : Int) < (L.length : Int) := by omega
    have HKX := Lib.hid hkx
    clear hcs1 hx1 hv1 hkx
    by_cases hq : x.a = seq
    · have hF := flt_yes HKX.out hq
      have HC2 := Lib.hid (show ∃ (ta : Option Addr) (tc : Nat), Cs wr T #[.int .i64 nx, .slice ta (flt seq (L.take (k + 1))).length tc] ∧ wr.ownsRow WT.heap.size 32 4 (.slice ta (flt seq (L.take (k + 1))).length tc) (flt seq (L.take (k + 1))).length (ocs (flt seq (L.take (k + 1)))) by rw [hF]; exact ⟨ta, tc, HCT.out, HRT.out⟩)
      rw [hq] at y0
      clear hF hq HCT HRT
      go_wp2
      go_roundw
      case rel => exact ⟨k + 1, hlt, by go_num, HC2, HW⟩
      case measure => simp [intOf]; omega
    have HFN := Lib.hid (flt_no HKX.out hq)
    have HFL := Lib.hid (flt_len seq L k)
    obtain ⟨F, hF⟩ : ∃ F, flt seq (L.take k) = F := ⟨_, rfl⟩
    obtain ⟨F', hF'⟩ : ∃ F, flt seq (L.take (k + 1)) = F := ⟨_, rfl⟩
    have HF' := Lib.hid hF'
    rw [hF, hF'] at HFN
    rw [hF] at HCT HRT HFL
    obtain ⟨xa, xb, xc, xd⟩ := x
    have q1 : ¬ xa = seq := hq
    have q2 : decide (xa = seq) = false := decide_eq_false hq
    have q3 : (xa == seq) = false := beq_eq_false_iff_ne.2 hq
    have q4 : (xa != seq) = true := by simpa using hq
    simp only at y0
    clear hF hF' hq
    go_upto_region 8 with fail
    clear xs1 xsz y0 yz t1 q1 q2 q3 q4
    have HEE := HE
    clear HE
    obtain ⟨lit, hlit⟩ : ∃ lit : (Nat → Value) → Act, lit = fun vs => { tmps := List.toArray (Value.agg #[Value.int IntKind.i64 nx, Value.slice (some { block := b1, off := o1 }) L.length sc] :: Value.int IntKind.i64 seq :: Value.pointer (some { block := w.heap.size, off := 0 }) :: undef :: Value.pointer (some { block := w.heap.size + 1, off := 0 }) :: Value.pointer (some { block := T, off := 0 }) :: Value.int IntKind.i64 (k : Int) :: Value.agg #[Value.int IntKind.i64 nx, Value.slice (some { block := b1, off := o1 }) L.length sc] :: Value.bool true :: Value.bool false :: undef :: Value.pointer (some { block := w.heap.size, off := 0 }) :: Value.int IntKind.i64 nx :: Value.agg #[Value.int IntKind.i64 nx, Value.slice none 0 0] :: Value.int IntKind.i64 (k : Int) :: Value.pointer (some { block := w.heap.size, off := 1 }) :: Value.slice (some { block := b1, off := o1 }) L.length sc :: Value.int IntKind.i64 (L.length : Int) :: Value.bool true :: u19 :: u20 :: Value.pointer (some { block := w.heap.size, off := 1 }) :: Value.slice (some { block := b1, off := o1 }) L.length sc :: Value.int IntKind.i64 (k : Int) :: Value.pointer (some { block := b1, off := o1 + k * 4 }) :: Value.pointer (some { block := b1, off := o1 + k * 4 }) :: Value.int IntKind.i64 xa :: Value.int IntKind.i64 seq :: Value.bool true :: vs 0 :: vs 1 :: vs 2 :: vs 3 :: vs 4 :: vs 5 :: vs 6 :: vs 7 :: vs 8 :: vs 9 :: undef :: []), defers := [] } := ⟨_, rfl⟩
    have HLIT := Lib.hid hlit
    clear hlit
    obtain ⟨val, hval⟩ : ∃ val : List Value, val = [.pointer (some ⟨T, 1, none⟩), .slice ta F.length tc, .pointer (some ⟨w.heap.size, 1, none⟩), .slice (some ⟨b1, o1, none⟩) L.length sc, .int .i64 k, .pointer (some ⟨b1, o1 + k * 4, none⟩), .agg #[.int .i64 xa, .int .i64 xb, .int .i64 xc, .int .i64 xd], undef, undef, .pointer (some ⟨T, 1, none⟩), undef] := ⟨_, rfl⟩
    have E0 := Lib.hid (show val.getD 0 undef = .pointer (some ⟨T, 1, none⟩) by rw [hval]; rfl)
    have E1 := Lib.hid (show val.getD 1 undef = .slice ta F.length tc by rw [hval]; rfl)
    have E2 := Lib.hid (show val.getD 2 undef = .pointer (some ⟨w.heap.size, 1, none⟩) by rw [hval]; rfl)
    have E3 := Lib.hid (show val.getD 3 undef = .slice (some ⟨b1, o1, none⟩) L.length sc by rw [hval]; rfl)
    have E4 := Lib.hid (show val.getD 4 undef = .int .i64 k by rw [hval]; rfl)
    have E5 := Lib.hid (show val.getD 5 undef = .pointer (some ⟨b1, o1 + k * 4, none⟩) by rw [hval]; rfl)
    have E6 := Lib.hid (show val.getD 6 undef = .agg #[.int .i64 xa, .int .i64 xb, .int .i64 xc, .int .i64 xd] by rw [hval]; rfl)
    have E9 := Lib.hid (show val.getD 9 undef = .pointer (some ⟨T, 1, none⟩) by rw [hval]; rfl)
    clear hval
    obtain ⟨G, hG0⟩ : ∃ G : Bool → Nat → Value → World → Prop, G = (fun bq iq vq ww => (iq = 7 → Qbx ⟨xa, xb, xc, xd⟩ bq vq ww) ∧ (iq = 8 → ∃ (ta9 : Option Addr) (tc9 : Nat), vq = .slice ta9 F'.length tc9 ∧ (bq = true → ((∃ z1, Cs ww T #[.int .i64 nx, z1]) ∧ ww.ownsRow WT.heap.size 32 4 (.slice ta9 F'.length tc9) F'.length (ocs F')))) ∧ (iq = 10 → bq = true → ∃ (ta9 : Option Addr) (tc9 : Nat), (Cs ww T #[.int .i64 nx, .slice ta9 F'.length tc9] ∧ ww.ownsRow WT.heap.size 32 4 (.slice ta9 F'.length tc9) F'.length (ocs F'))) ∧ (iq ≠ 7 → iq ≠ 8 → iq ≠ 10 → vq = val.getD iq undef)) := ⟨_, rfl⟩
    have HG := Lib.hid hG0
    clear hG0
    refine region_inv (NS lit 8 (fun p q => (p == 8 && q == 1) || (p == 8 && q == 7) || (p == 5 && q == 3) || (p == 5 && q == 4) || (p == 6 && q == 5) || (p == 7 && q == 6) || (p == 10 && q == 8)) G fun bq wv => (bq = false → Below wr.heap.size wr wv) ∧ (bq = true → Below T wr wv)) (by kernel_rfl) (by decide +kernel) ?_ ?_ ?_
    · exact NS.start (fun i => ([u29, u30, u31, u32, u33, u34, u35, u36, u37, u38, undef] : List Value).getD i undef) (by rw [HLIT.out]; rfl) ⟨fun _ => below_drew _ _, fun h => (by cases h)⟩
    · refine ⟨?_, ?_, ?_, ?_, ?_, ?_, ?_, ?_, ?_, ?_, ?_, trivial⟩
      · intro bf ac wv hfb haf hJ K' hK
        obtain ⟨vs, rfl, ja, hB, j4⟩ := hJ
        replace hK := Lib.hid hK
        rw [HG.out] at j4
        replace j4 := Lib.hid (And.intro ja j4)
        replace hB := Lib.hid hB
        clear ja haf
        rw [HLIT.out]
        go_simp
        exact hK.out _ _ (NS.next (vs := vs) 0 (by omega) (fun q h => absurd h (by simp)) (x := .pointer (some ⟨T, 1, none⟩)) (by rw [HLIT.out]; rfl) (by rw [HG.out]; exact j4.out) hB.out (by rw [HG.out]; exact fun _ _ h => h) (by rw [HG.out]; exact ⟨fun h => absurd h (by decide), fun h => absurd h (by decide), fun h => absurd h (by decide), fun _ _ _ => E0.out.symm⟩))
      · intro bf ac wv hfb haf hJ K' hK
        obtain ⟨vs, rfl, ja, hB, j4⟩ := hJ
        replace hK := Lib.hid hK
        simp [Region.binds] at haf
        rw [HG.out] at j4
        have e0 := ((j4 0 (by simp [haf])).2.2.2 (by decide) (by decide) (by decide)).trans E0.out
        have hd : bf 8 = false := by
          cases h : bf 8
          · rfl
          · exact absurd ((ja 8 1 rfl h).symm.trans hfb) (by simp)
        have hM := Lib.hid (hB.1 hd)
        replace j4 := Lib.hid (And.intro ja j4)
        replace hB := Lib.hid hB
        clear ja haf
        have xt1 := (HCT.out.step hM.out).c 1 rfl
        have xtz := (HCT.out.step hM.out).2.2
        rw [HLIT.out]
        go_simp
        exact hK.out _ _ (NS.next (vs := vs) 1 (by omega) (fun q h => absurd h (by simp)) (x := .slice ta F.length tc) (by rw [HLIT.out]; simp only [upv, e0, Nat.reduceBEq, cond_true, cond_false]) (by rw [HG.out]; exact j4.out) hB.out (by rw [HG.out]; exact fun _ _ h => h) (by rw [HG.out]; exact ⟨fun h => absurd h (by decide), fun h => absurd h (by decide), fun h => absurd h (by decide), fun _ _ _ => E1.out.symm⟩))
      · intro bf ac wv hfb haf hJ K' hK
        obtain ⟨vs, rfl, ja, hB, j4⟩ := hJ
        replace hK := Lib.hid hK
        rw [HG.out] at j4
        replace j4 := Lib.hid (And.intro ja j4)
        replace hB := Lib.hid hB
        clear ja haf
        rw [HLIT.out]
        go_simp
        exact hK.out _ _ (NS.next (vs := vs) 2 (by omega) (fun q h => absurd h (by simp)) (x := .pointer (some ⟨w.heap.size, 1, none⟩)) (by rw [HLIT.out]; rfl) (by rw [HG.out]; exact j4.out) hB.out (by rw [HG.out]; exact fun _ _ h => h) (by rw [HG.out]; exact ⟨fun h => absurd h (by decide), fun h => absurd h (by decide), fun h => absurd h (by decide), fun _ _ _ => E2.out.symm⟩))
      · intro bf ac wv hfb haf hJ K' hK
        obtain ⟨vs, rfl, ja, hB, j4⟩ := hJ
        replace hK := Lib.hid hK
        simp [Region.binds] at haf
        rw [HG.out] at j4
        have e2 := ((j4 2 (by simp [haf])).2.2.2 (by decide) (by decide) (by decide)).trans E2.out
        have hd : bf 8 = false := by
          cases h : bf 8
          · rfl
          · exact absurd ((ja 5 3 rfl (ja 6 5 rfl (ja 7 6 rfl (ja 8 7 rfl h)))).symm.trans hfb) (by simp)
        have hM := Lib.hid (hB.1 hd)
        replace j4 := Lib.hid (And.intro ja j4)
        replace hB := Lib.hid hB
        clear ja haf
        have xs1 := (HSr.out.step hM.out).c 1 rfl
        have xsz := (HSr.out.step hM.out).2.2
        rw [HLIT.out]
        go_simp
        exact hK.out _ _ (NS.next (vs := vs) 3 (by omega) (fun q h => absurd h (by simp)) (x := .slice (some ⟨b1, o1, none⟩) L.length sc) (by rw [HLIT.out]; simp only [upv, e2, Nat.reduceBEq, cond_true, cond_false]) (by rw [HG.out]; exact j4.out) hB.out (by rw [HG.out]; exact fun _ _ h => h) (by rw [HG.out]; exact ⟨fun h => absurd h (by decide), fun h => absurd h (by decide), fun h => absurd h (by decide), fun _ _ _ => E3.out.symm⟩))
      · intro bf ac wv hfb haf hJ K' hK
        obtain ⟨vs, rfl, ja, hB, j4⟩ := hJ
        replace hK := Lib.hid hK
        rw [HG.out] at j4
        replace j4 := Lib.hid (And.intro ja j4)
        replace hB := Lib.hid hB
        clear ja haf
        rw [HLIT.out]
        go_simp
        exact hK.out _ _ (NS.next (vs := vs) 4 (by omega) (fun q h => absurd h (by simp)) (x := .int .i64 k) (by rw [HLIT.out]; rfl) (by rw [HG.out]; exact j4.out) hB.out (by rw [HG.out]; exact fun _ _ h => h) (by rw [HG.out]; exact ⟨fun h => absurd h (by decide), fun h => absurd h (by decide), fun h => absurd h (by decide), fun _ _ _ => E4.out.symm⟩))
      · intro bf ac wv hfb haf hJ K' hK
        obtain ⟨vs, rfl, ja, hB, j4⟩ := hJ
        replace hK := Lib.hid hK
        simp [Region.binds] at haf
        rw [HG.out] at j4
        have e3 := ((j4 3 (by simp [haf])).2.2.2 (by decide) (by decide) (by decide)).trans E3.out
        have e4 := ((j4 4 (by simp [haf])).2.2.2 (by decide) (by decide) (by decide)).trans E4.out
        have HA := Lib.hid (show ∀ q, (fun p q => (p == 8 && q == 1) || (p == 8 && q == 7) || (p == 5 && q == 3) || (p == 5 && q == 4) || (p == 6 && q == 5) || (p == 7 && q == 6) || (p == 10 && q == 8)) 5 q = true → bf q = true from fun q hi => by
          obtain rfl | rfl : q = 3 ∨ q = 4 := by simpa [or_assoc] using hi
          all_goals simp [haf])
        replace j4 := Lib.hid (And.intro ja j4)
        replace hB := Lib.hid hB
        clear ja haf
        have tm1 : (k : Int) < (L.length : Int) := by omega
        rw [HLIT.out]
        go_simp
        exact hK.out _ _ (NS.next (vs := vs) 5 (by omega) (HA.out) (x := .pointer (some ⟨b1, o1 + k * 4, none⟩)) (by rw [HLIT.out]; simp only [upv, e3, e4, Nat.reduceBEq, cond_true, cond_false]) (by rw [HG.out]; exact j4.out) hB.out (by rw [HG.out]; exact fun _ _ h => h) (by rw [HG.out]; exact ⟨fun h => absurd h (by decide), fun h => absurd h (by decide), fun h => absurd h (by decide), fun _ _ _ => E5.out.symm⟩))
      · intro bf ac wv hfb haf hJ K' hK
        obtain ⟨vs, rfl, ja, hB, j4⟩ := hJ
        replace hK := Lib.hid hK
        simp [Region.binds] at haf
        rw [HG.out] at j4
        have e5 := ((j4 5 (by simp [haf])).2.2.2 (by decide) (by decide) (by decide)).trans E5.out
        have hd : bf 8 = false := by
          cases h : bf 8
          · rfl
          · exact absurd ((ja 7 6 rfl (ja 8 7 rfl h)).symm.trans hfb) (by simp)
        have hM := Lib.hid (hB.1 hd)
        have HA := Lib.hid (show ∀ q, (fun p q => (p == 8 && q == 1) || (p == 8 && q == 7) || (p == 5 && q == 3) || (p == 5 && q == 4) || (p == 6 && q == 5) || (p == 7 && q == 6) || (p == 10 && q == 8)) 6 q = true → bf q = true from fun q hi => by
          obtain rfl : q = 5 := by simpa [or_assoc] using hi
          all_goals simp [haf])
        replace j4 := Lib.hid (And.intro ja j4)
        replace hB := Lib.hid hB
        clear ja haf
        have q0 := keep1 hM.out HY.out.1
        have q1 := keep1 hM.out HY.out.2.1
        have q2 := keep1 hM.out HY.out.2.2.1
        have q3 := keep1 hM.out HY.out.2.2.2
        have qz := World.block_lt_of_cell? _ _ q0
        have qz : b1 < wv.heap.size := qz
        rw [HLIT.out]
        go_simp
        exact hK.out _ _ (NS.next (vs := vs) 6 (by omega) (HA.out) (x := .agg #[.int .i64 xa, .int .i64 xb, .int .i64 xc, .int .i64 xd]) (by rw [HLIT.out]; simp only [upv, e5, Nat.reduceBEq, cond_true, cond_false]) (by rw [HG.out]; exact j4.out) hB.out (by rw [HG.out]; exact fun _ _ h => h) (by rw [HG.out]; exact ⟨fun h => absurd h (by decide), fun h => absurd h (by decide), fun h => absurd h (by decide), fun _ _ _ => E6.out.symm⟩))
      · intro bf ac wv hfb haf hJ K' hK
        obtain ⟨vs, rfl, ja, hB, j4⟩ := hJ
        replace hK := Lib.hid hK
        simp [Region.binds] at haf
        rw [HG.out] at j4
        have e6 := ((j4 6 (by simp [haf])).2.2.2 (by decide) (by decide) (by decide)).trans E6.out
        have hd : bf 8 = false := by
          cases h : bf 8
          · rfl
          · exact absurd ((ja 8 7 rfl h).symm.trans hfb) (by simp)
        have hM := Lib.hid (hB.1 hd)
        have HA := Lib.hid (show ∀ q, (fun p q => (p == 8 && q == 1) || (p == 8 && q == 7) || (p == 5 && q == 3) || (p == 5 && q == 4) || (p == 6 && q == 5) || (p == 7 && q == 6) || (p == 10 && q == 8)) 7 q = true → bf q = true from fun q hi => by
          obtain rfl : q = 6 := by simpa [or_assoc] using hi
          all_goals simp [haf])
        replace j4 := Lib.hid (And.intro ja j4)
        replace hB := Lib.hid hB
        clear ja haf
        rw [HLIT.out]
        go_simp
        have b4 := al wv (.cells #[.int .i64 xa, .int .i64 xb, .int .i64 xc, .int .i64 xd] 32)
        exact hK.out _ _ (NS.next (vs := vs) 7 (by omega) (HA.out) (x := (.slice (some ⟨wv.heap.size, 0, none⟩) 1 1)) (by rw [HLIT.out]; simp only [upv, e6, Nat.reduceBEq, cond_true, cond_false]) (by rw [HG.out]; exact j4.out) ⟨fun _ => keep2 b4 hM.out, fun e => absurd (e.symm.trans hd) (by simp)⟩ (by rw [HG.out]; exact fun k hbk h => ⟨fun q => (h.1 q).step b4, fun q => (by obtain ⟨x8, x9, e8, -⟩ := (h.2.1 q); exact ⟨x8, x9, e8, fun e => absurd (e.symm.trans hd) (by simp)⟩), fun q => (fun e => absurd (e.symm.trans hd) (by simp)), h.2.2.2⟩) (by rw [HG.out]; exact ⟨fun _ => ⟨wv.heap.size, rfl, fun _ => BoxN.new wv #[.int .i64 xa, .int .i64 xb, .int .i64 xc, .int .i64 xd] 32⟩, fun h => absurd h (by decide), fun h => absurd h (by decide), fun h7 => absurd rfl h7⟩))
      · intro bf ac wv hfb haf hJ K' hK
        obtain ⟨vs, rfl, ja, hB, j4⟩ := hJ
        replace hK := Lib.hid hK
        simp [Region.binds] at haf
        rw [HG.out] at j4
        have e1 := ((j4 1 (by simp [haf])).2.2.2 (by decide) (by decide) (by decide)).trans E1.out
        have e7 := (j4 7 (by simp [haf])).1 rfl
        rw [hfb] at j4 hB
        try rw [hfb] at e7
        have HA := Lib.hid (show ∀ q, (fun p q => (p == 8 && q == 1) || (p == 8 && q == 7) || (p == 5 && q == 3) || (p == 5 && q == 4) || (p == 6 && q == 5) || (p == 7 && q == 6) || (p == 10 && q == 8)) 8 q = true → bf q = true from fun q hi => by
          obtain rfl | rfl : q = 1 ∨ q = 7 := by simpa [or_assoc] using hi
          all_goals simp [haf])
        have hz10 : bf 10 = false := by
          cases h : bf 10
          · rfl
          · exact absurd ((ja 10 8 rfl h).symm.trans hfb) (by simp)
        have hM := Lib.hid (hB.1 rfl)
        replace j4 := Lib.hid j4
        have HE := Lib.hid (And.intro ja HA.out)
        clear ja haf hB HA
        obtain ⟨g9, e7, hbx⟩ := e7
        replace hbx := hbx rfl
        have hr0 := row_step HRT.out hM.out
        have hWs : WT.heap.size ≤ wv.heap.size := Nat.le_trans HW.out.size hM.out.size
        obtain ⟨ta9, tc9, w8, hr8, hg8, ho8, -⟩ := app_row (x := ⟨xa, xb, xc, xd⟩) hr0 hbx (by have := HFL.out; have := H9.out; omega) HFN.out hWs
        have hc8 := cs_kept (HCT.out.step hM.out) hg8 (nb_own rfl hr0 (fun g o q => by have h1 := row_adrD hr0 g o q; have h2 := HWT.out; omega))
        rw [HLIT.out]
        refine step_app rfl _ _ 22 rfl _ _ _ e1 e7 hr8 ?_
        refine hK.out _ _ (NS.piv (vs := vs) (x := .slice ta9 F'.length tc9) (by rw [HLIT.out]; rfl) HE.out ⟨fun e => (by cases e), fun _ => (hM.out.mono (Nat.le_trans (Nat.le_of_lt HWT.out) HW.out.size)).grown hg8 (Nat.le_trans (Nat.le_of_lt HWT.out) hWs) (fun kk ek => Nat.le_trans (Nat.le_of_lt HWT.out) (row_own hr0 ek))⟩ (fun j hj hb => ?_) (by rw [HG.out]; exact ⟨fun h => absurd h (by decide), fun _ => ⟨ta9, tc9, rfl, fun _ => ⟨⟨_, hc8⟩, ho8⟩⟩, fun h => absurd h (by decide), fun h7 => fun h8 => absurd rfl h8⟩))
        rw [HG.out]
        have q := j4.out j hb
        exact ⟨fun h => (q.1 h).put _, fun h => absurd h hj, fun h => (by rw [h, hz10] at hb; cases hb), q.2.2.2⟩
      · intro bf ac wv hfb haf hJ K' hK
        obtain ⟨vs, rfl, ja, hB, j4⟩ := hJ
        replace hK := Lib.hid hK
        rw [HG.out] at j4
        replace j4 := Lib.hid (And.intro ja j4)
        replace hB := Lib.hid hB
        clear ja haf
        rw [HLIT.out]
        go_simp
        exact hK.out _ _ (NS.next (vs := vs) 9 (by omega) (fun q h => absurd h (by simp)) (x := .pointer (some ⟨T, 1, none⟩)) (by rw [HLIT.out]; rfl) (by rw [HG.out]; exact j4.out) hB.out (by rw [HG.out]; exact fun _ _ h => h) (by rw [HG.out]; exact ⟨fun h => absurd h (by decide), fun h => absurd h (by decide), fun h => absurd h (by decide), fun _ _ _ => E9.out.symm⟩))
      · intro bf ac wv hfb haf hJ K' hK
        obtain ⟨vs, rfl, ja, hB, j4⟩ := hJ
        replace hK := Lib.hid hK
        simp [Region.binds] at haf
        rw [HG.out] at j4
        have e8 := (j4 8 (by simp [haf])).2.1 rfl
        have e9 := ((j4 9 (by simp [haf])).2.2.2 (by decide) (by decide) (by decide)).trans E9.out
        have hb8 : bf 8 = true := by simp [haf]
        replace j4 := Lib.hid (And.intro ja j4)
        have HMB := Lib.hid (hB.2 hb8)
        rw [hb8] at e8
        obtain ⟨ta9, tc9, e8, hor⟩ := e8
        replace hor := Lib.hid (hor rfl)
        clear ja haf hB
        obtain ⟨z1, hcz⟩ := hor.out.1
        have x1 := hcz.c 1 rfl
        have y1 := hcz.f 1 (by simp)
        have xz := hcz.2.2
        replace hcz := Lib.hid hcz
        rw [HLIT.out]
        go_simp
        have hgs := grown_set wv T 1 (.slice ta9 F'.length tc9)
        have hnb : nb ta9 T := fun g o q => by have h1 := row_adrD hor.out.2 g o q; have h2 := HWT.out; omega
        have hfin : (Cs (wv.setCell ⟨T, 1, none⟩ (.slice ta9 F'.length tc9)) T #[.int .i64 nx, .slice ta9 F'.length tc9] ∧ (wv.setCell ⟨T, 1, none⟩ (.slice ta9 F'.length tc9)).ownsRow WT.heap.size 32 4 (.slice ta9 F'.length tc9) F'.length (ocs F')) := ⟨Cs.set hcz.out 1 (by simp) _ rfl, row_kept hor.out.2 hgs (nb_some hnb)⟩
        refine hK.out _ _ (NS.next (vs := vs) 10 (by omega) (fun q h => by
          obtain rfl : q = 8 := by simpa using h
          exact hb8) (x := undef) (by rw [HLIT.out]; simp only [upv, e8, e9, Nat.reduceBEq, cond_false]) (by rw [HG.out]; exact j4.out) ⟨fun e => absurd (e.symm.trans hb8) (by simp), fun _ => HMB.out.setCell (p := ⟨T, 1, none⟩) (Nat.le_refl _) _⟩ ?_ (by rw [HG.out]; exact ⟨fun h => absurd h (by decide), fun h => absurd h (by decide), fun _ => fun _ => ⟨ta9, tc9, hfin⟩, fun h7 => fun h8 => fun h10 => absurd rfl h10⟩))
        rw [HG.out, hb8]
        intro kk hbk hh
        exact ⟨fun q => (hh.1 q).put _, fun q => (by subst q; exact ⟨ta9, tc9, e8, fun _ => ⟨⟨_, hfin.1⟩, hfin.2⟩⟩), fun q => (by rw [q, hfb] at hbk; cases hbk), hh.2.2.2⟩
    · intro bf ac wv hall hJ
      obtain ⟨vs, rfl, -, hB, j4⟩ := hJ
      rw [HG.out] at j4
      rw [hall 8 (by decide)] at hB j4
      have hM := Lib.hid (hB.2 rfl)
      clear hB
      obtain ⟨ta9, tc9, h9⟩ := (j4 10 (hall 10 (by decide))).2.2.1 rfl (by simp)
      have HC2 := Lib.hid (show ∃ (ta : Option Addr) (tc : Nat), Cs wv T #[.int .i64 nx, .slice ta (flt seq (L.take (k + 1))).length tc] ∧ wv.ownsRow WT.heap.size 32 4 (.slice ta (flt seq (L.take (k + 1))).length tc) (flt seq (L.take (k + 1))).length (ocs (flt seq (L.take (k + 1)))) by rw [HF'.out]; exact ⟨ta9, tc9, h9⟩)
      have HW2 := Lib.hid (HW.out.trans hM.out)
      clear j4 hall h9 hM
      rw [HLIT.out]
      dsimp only
      clear HLIT HG
      go_wp2
      go_roundw
      case rel => exact ⟨k + 1, hlt, by go_num, HC2, HW2⟩
      case measure => simp [intOf]; omega
end Go.Proofs.Ytkamkkjijjkfdaa
