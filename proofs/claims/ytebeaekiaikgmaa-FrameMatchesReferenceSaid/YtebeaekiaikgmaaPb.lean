/- Frames, the reference: 'Seal', 'Open'. -/
import Derived.Test.YtebeaekiaikgmaaPa
import Derived.Test.YtebeaekiaikgmaaLdl
namespace Go.Proofs.Ytebeaekiaikgmaa
open Go.RowKit

set_option maxRecDepth 100000 in
set_option maxHeartbeats 8000000 in
theorem rseal_no1 (key : Int) (a b c d : Int) (sl : Value) (l : List Int) (t : Int) (w : World) (h : IntsAt w sl l) (hk : tgB key = false) : Calls Try.prog 12 #[.int .i64 key, .agg #[.int .i64 a, .int .i64 b, .int .i64 c, .int .i64 d, sl, .int .i64 t]] w (DcP w 0 0 0 0 [] 0 1) := by
  have HL0 := Lib.hid h
  obtain ⟨sa, sc, rfl, hm, -⟩ := h
  have HC0 := Lib.hid ((Cs.new w w.heap.size #[.int .i64 a, .int .i64 b, .int .i64 c, .int .i64 d, .slice sa l.length sc, .int .i64 t] 24 rfl).alloc (.cells #[.int .i64 0, .int .i64 0, .int .i64 0, .int .i64 0, .slice none 0 0, .int .i64 0] 24))
  have HR0 := Lib.hid (Cs.new (w.alloc (.cells #[.int .i64 a, .int .i64 b, .int .i64 c, .int .i64 d, .slice sa l.length sc, .int .i64 t] 24)) (w.heap.size + 1) #[.int .i64 0, .int .i64 0, .int .i64 0, .int .i64 0, .slice none 0 0, .int .i64 0] 24 (by simp))
  have HB0 := Lib.hid (al2 (w := w) (o1 := .cells #[.int .i64 a, .int .i64 b, .int .i64 c, .int .i64 d, .slice sa l.length sc, .int .i64 t] 24) (o2 := .cells #[.int .i64 0, .int .i64 0, .int .i64 0, .int .i64 0, .slice none 0 0, .int .i64 0] 24))
  replace hk := Lib.hid hk
  have HZ := Lib.hid (show w.heap.size + 1 < ((w.alloc (.cells #[.int .i64 a, .int .i64 b, .int .i64 c, .int .i64 d, .slice sa l.length sc, .int .i64 t] 24)).alloc (.cells #[.int .i64 0, .int .i64 0, .int .i64 0, .int .i64 0, .slice none 0 0, .int .i64 0] 24)).heap.size by simp)
  have HC1 := Lib.hid (Cs.set HC0.out 5 (by simp) (.int .i64 0) (vs' := #[.int .i64 a, .int .i64 b, .int .i64 c, .int .i64 d, .slice sa l.length sc, .int .i64 0]) rfl)
  have HR1 := Lib.hid (Cs.other HR0.out (b := w.heap.size) (by omega) 5 (.int .i64 0))
  have HB1 := Lib.hid (HB0.out.setCell (p := ⟨w.heap.size, 5, none⟩) (Nat.le_refl _) (.int .i64 0))
  have x0 := HC0.out.c 0 rfl
  have x1 := HC0.out.c 1 rfl
  have x2 := HC0.out.c 2 rfl
  have x3 := HC0.out.c 3 rfl
  have x4 := HC0.out.c 4 rfl
  have x5 := HC0.out.c 5 rfl
  have xz := HC0.out.2.2
  have f0 := HC0.out.f 0 (by simp)
  have f1 := HC0.out.f 1 (by simp)
  have f2 := HC0.out.f 2 (by simp)
  have f3 := HC0.out.f 3 (by simp)
  have f4 := HC0.out.f 4 (by simp)
  have f5 := HC0.out.f 5 (by simp)
  obtain ⟨W1, hW1⟩ : ∃ z, ((w.alloc (.cells #[.int .i64 a, .int .i64 b, .int .i64 c, .int .i64 d, .slice sa l.length sc, .int .i64 t] 24)).alloc (.cells #[.int .i64 0, .int .i64 0, .int .i64 0, .int .i64 0, .slice none 0 0, .int .i64 0] 24)).setCell ⟨w.heap.size, 5, none⟩ (.int .i64 0) = z := ⟨_, rfl⟩
  rw [hW1] at HC1 HR1 HB1
  have HL1 := Lib.hid (HL0.out.step HB1.out)
  have HZ1 := Lib.hid (show w.heap.size + 1 < W1.heap.size from HR1.out.2.2)
  have c0 := HC1.out.c 0 rfl
  have c1 := HC1.out.c 1 rfl
  have c2 := HC1.out.c 2 rfl
  have c3 := HC1.out.c 3 rfl
  have c4 := HC1.out.c 4 rfl
  have c5 := HC1.out.c 5 rfl
  have cz := HC1.out.2.2
  have r0 := HR1.out.c 0 rfl
  have r1 := HR1.out.c 1 rfl
  have r2 := HR1.out.c 2 rfl
  have r3 := HR1.out.c 3 rfl
  have r4 := HR1.out.c 4 rfl
  have r5 := HR1.out.c 5 rfl
  have rz := HR1.out.2.2
  have p0 := HR1.out.f 0 (by simp)
  have p1 := HR1.out.f 1 (by simp)
  have p2 := HR1.out.f 2 (by simp)
  have p3 := HR1.out.f 3 (by simp)
  have p4 := HR1.out.f 4 (by simp)
  have p5 := HR1.out.f 5 (by simp)
  go_enter Try.func12, Try.ntmps12
  go_wp2_with fail
  refine (rkey_any key _ hk.out _).mono ?_
  rintro e w' ⟨rfl, rfl⟩
  go_wp2_with fail
  refine (fun (h : ∀ W : World, Cs W (w.heap.size + 1) #[.int .i64 0, .int .i64 0, .int .i64 0, .int .i64 0, .slice none 0 0, .int .i64 0] → Below w.heap.size w W → bodyPost Try.prog Try.f12 _ Exit.ret _ W) => h _ (cs_store6 HR1.out _ _ _ _ _ _) (bel_store6 HB1.out (Nat.le_succ _) _ _ _ _ _ _)) ?_
  intro W hC hB
  have k0 : W.cell? ⟨w.heap.size + 1, 0, none⟩ = some (.int .i64 0) := hC.c 0 rfl
  have k1 : W.cell? ⟨w.heap.size + 1, 1, none⟩ = some (.int .i64 0) := hC.c 1 rfl
  have k2 : W.cell? ⟨w.heap.size + 1, 2, none⟩ = some (.int .i64 0) := hC.c 2 rfl
  have k3 : W.cell? ⟨w.heap.size + 1, 3, none⟩ = some (.int .i64 0) := hC.c 3 rfl
  have k4 : W.cell? ⟨w.heap.size + 1, 4, none⟩ = some (.slice none 0 0) := hC.c 4 rfl
  have k5 : W.cell? ⟨w.heap.size + 1, 5, none⟩ = some (.int .i64 0) := hC.c 5 rfl
  exact bodyPost_ret (v := .tuple #[.agg #[.int .i64 0, .int .i64 0, .int .i64 0, .int .i64 0, .slice none 0 0, .int .i64 0], .int .i64 1]) (by simp [results, Try.results12, go_sem, k0, k1, k2, k3, k4, k5]) rfl ⟨_, rfl, ints_nil _, hB⟩
set_option maxRecDepth 100000 in
set_option maxHeartbeats 8000000 in
theorem rseal_no2 (key : Int) (a b c d : Int) (sl : Value) (l : List Int) (t : Int) (w : World) (h : IntsAt w sl l) (hk : tgB key = true) (hv : vaB a b c d l 0 = false) : Calls Try.prog 12 #[.int .i64 key, .agg #[.int .i64 a, .int .i64 b, .int .i64 c, .int .i64 d, sl, .int .i64 t]] w (DcP w 0 0 0 0 [] 0 1) := by
  have HL0 := Lib.hid h
  obtain ⟨sa, sc, rfl, hm, -⟩ := h
  have HC0 := Lib.hid ((Cs.new w w.heap.size #[.int .i64 a, .int .i64 b, .int .i64 c, .int .i64 d, .slice sa l.length sc, .int .i64 t] 24 rfl).alloc (.cells #[.int .i64 0, .int .i64 0, .int .i64 0, .int .i64 0, .slice none 0 0, .int .i64 0] 24))
  have HR0 := Lib.hid (Cs.new (w.alloc (.cells #[.int .i64 a, .int .i64 b, .int .i64 c, .int .i64 d, .slice sa l.length sc, .int .i64 t] 24)) (w.heap.size + 1) #[.int .i64 0, .int .i64 0, .int .i64 0, .int .i64 0, .slice none 0 0, .int .i64 0] 24 (by simp))
  have HB0 := Lib.hid (al2 (w := w) (o1 := .cells #[.int .i64 a, .int .i64 b, .int .i64 c, .int .i64 d, .slice sa l.length sc, .int .i64 t] 24) (o2 := .cells #[.int .i64 0, .int .i64 0, .int .i64 0, .int .i64 0, .slice none 0 0, .int .i64 0] 24))
  replace hk := Lib.hid hk
  replace hv := Lib.hid hv
  have HZ := Lib.hid (show w.heap.size + 1 < ((w.alloc (.cells #[.int .i64 a, .int .i64 b, .int .i64 c, .int .i64 d, .slice sa l.length sc, .int .i64 t] 24)).alloc (.cells #[.int .i64 0, .int .i64 0, .int .i64 0, .int .i64 0, .slice none 0 0, .int .i64 0] 24)).heap.size by simp)
  have HC1 := Lib.hid (Cs.set HC0.out 5 (by simp) (.int .i64 0) (vs' := #[.int .i64 a, .int .i64 b, .int .i64 c, .int .i64 d, .slice sa l.length sc, .int .i64 0]) rfl)
  have HR1 := Lib.hid (Cs.other HR0.out (b := w.heap.size) (by omega) 5 (.int .i64 0))
  have HB1 := Lib.hid (HB0.out.setCell (p := ⟨w.heap.size, 5, none⟩) (Nat.le_refl _) (.int .i64 0))
  have x0 := HC0.out.c 0 rfl
  have x1 := HC0.out.c 1 rfl
  have x2 := HC0.out.c 2 rfl
  have x3 := HC0.out.c 3 rfl
  have x4 := HC0.out.c 4 rfl
  have x5 := HC0.out.c 5 rfl
  have xz := HC0.out.2.2
  have f0 := HC0.out.f 0 (by simp)
  have f1 := HC0.out.f 1 (by simp)
  have f2 := HC0.out.f 2 (by simp)
  have f3 := HC0.out.f 3 (by simp)
  have f4 := HC0.out.f 4 (by simp)
  have f5 := HC0.out.f 5 (by simp)
  obtain ⟨W1, hW1⟩ : ∃ z, ((w.alloc (.cells #[.int .i64 a, .int .i64 b, .int .i64 c, .int .i64 d, .slice sa l.length sc, .int .i64 t] 24)).alloc (.cells #[.int .i64 0, .int .i64 0, .int .i64 0, .int .i64 0, .slice none 0 0, .int .i64 0] 24)).setCell ⟨w.heap.size, 5, none⟩ (.int .i64 0) = z := ⟨_, rfl⟩
  rw [hW1] at HC1 HR1 HB1
  have HL1 := Lib.hid (HL0.out.step HB1.out)
  have HZ1 := Lib.hid (show w.heap.size + 1 < W1.heap.size from HR1.out.2.2)
  have c0 := HC1.out.c 0 rfl
  have c1 := HC1.out.c 1 rfl
  have c2 := HC1.out.c 2 rfl
  have c3 := HC1.out.c 3 rfl
  have c4 := HC1.out.c 4 rfl
  have c5 := HC1.out.c 5 rfl
  have cz := HC1.out.2.2
  have r0 := HR1.out.c 0 rfl
  have r1 := HR1.out.c 1 rfl
  have r2 := HR1.out.c 2 rfl
  have r3 := HR1.out.c 3 rfl
  have r4 := HR1.out.c 4 rfl
  have r5 := HR1.out.c 5 rfl
  have rz := HR1.out.2.2
  have p0 := HR1.out.f 0 (by simp)
  have p1 := HR1.out.f 1 (by simp)
  have p2 := HR1.out.f 2 (by simp)
  have p3 := HR1.out.f 3 (by simp)
  have p4 := HR1.out.f 4 (by simp)
  have p5 := HR1.out.f 5 (by simp)
  go_enter Try.func12, Try.ntmps12
  go_wp2_with fail
  refine (rkey_any key _ hk.out _).mono ?_
  rintro e w' ⟨rfl, rfl⟩
  go_wp2_with fail
  refine (rvalid_any a b c d _ l 0 _ HL1.out _ hv.out).mono ?_
  rintro e w2 ⟨rfl, b2⟩
  have HC2 := Lib.hid (HC1.out.step b2)
  have HR2 := Lib.hid (HR1.out.step b2)
  have HB2 := Lib.hid (keep2 b2 HB1.out)
  have HL2 := Lib.hid (HL1.out.step b2)
  have HZ2 := Lib.hid (show w.heap.size + 1 < w2.heap.size from HR2.out.2.2)
  clear b2 c0 c1 c2 c3 c4 c5 cz r0 r1 r2 r3 r4 r5 rz p0 p1 p2 p3 p4 p5 x0 x1 x2 x3 x4 x5 xz f0 f1 f2 f3 f4 f5
  have r0 := HR2.out.c 0 rfl
  have r1 := HR2.out.c 1 rfl
  have r2 := HR2.out.c 2 rfl
  have r3 := HR2.out.c 3 rfl
  have r4 := HR2.out.c 4 rfl
  have r5 := HR2.out.c 5 rfl
  have rz := HR2.out.2.2
  have p0 := HR2.out.f 0 (by simp)
  have p1 := HR2.out.f 1 (by simp)
  have p2 := HR2.out.f 2 (by simp)
  have p3 := HR2.out.f 3 (by simp)
  have p4 := HR2.out.f 4 (by simp)
  have p5 := HR2.out.f 5 (by simp)
  go_wp2_with fail
  refine (fun (h : ∀ W : World, Cs W (w.heap.size + 1) #[.int .i64 0, .int .i64 0, .int .i64 0, .int .i64 0, .slice none 0 0, .int .i64 0] → Below w.heap.size w W → bodyPost Try.prog Try.f12 _ Exit.ret _ W) => h _ (cs_store6 HR2.out _ _ _ _ _ _) (bel_store6 HB2.out (Nat.le_succ _) _ _ _ _ _ _)) ?_
  intro W hC hB
  have k0 : W.cell? ⟨w.heap.size + 1, 0, none⟩ = some (.int .i64 0) := hC.c 0 rfl
  have k1 : W.cell? ⟨w.heap.size + 1, 1, none⟩ = some (.int .i64 0) := hC.c 1 rfl
  have k2 : W.cell? ⟨w.heap.size + 1, 2, none⟩ = some (.int .i64 0) := hC.c 2 rfl
  have k3 : W.cell? ⟨w.heap.size + 1, 3, none⟩ = some (.int .i64 0) := hC.c 3 rfl
  have k4 : W.cell? ⟨w.heap.size + 1, 4, none⟩ = some (.slice none 0 0) := hC.c 4 rfl
  have k5 : W.cell? ⟨w.heap.size + 1, 5, none⟩ = some (.int .i64 0) := hC.c 5 rfl
  exact bodyPost_ret (v := .tuple #[.agg #[.int .i64 0, .int .i64 0, .int .i64 0, .int .i64 0, .slice none 0 0, .int .i64 0], .int .i64 1]) (by simp [results, Try.results12, go_sem, k0, k1, k2, k3, k4, k5]) rfl ⟨_, rfl, ints_nil _, hB⟩
set_option maxRecDepth 100000 in
set_option maxHeartbeats 8000000 in
theorem rseal_ok (key : Int) (a b c d : Int) (sl : Value) (l : List Int) (t : Int) (w : World) (h : IntsAt w sl l) (hk : tgB key = true) (hv : vaB a b c d l 0 = true) : Calls Try.prog 12 #[.int .i64 key, .agg #[.int .i64 a, .int .i64 b, .int .i64 c, .int .i64 d, sl, .int .i64 t]] w (DcP w a b c d l (tgF key a b c d l) 0) := by
  have HL0 := Lib.hid h
  obtain ⟨sa, sc, rfl, hm, -⟩ := h
  have HC0 := Lib.hid ((Cs.new w w.heap.size #[.int .i64 a, .int .i64 b, .int .i64 c, .int .i64 d, .slice sa l.length sc, .int .i64 t] 24 rfl).alloc (.cells #[.int .i64 0, .int .i64 0, .int .i64 0, .int .i64 0, .slice none 0 0, .int .i64 0] 24))
  have HR0 := Lib.hid (Cs.new (w.alloc (.cells #[.int .i64 a, .int .i64 b, .int .i64 c, .int .i64 d, .slice sa l.length sc, .int .i64 t] 24)) (w.heap.size + 1) #[.int .i64 0, .int .i64 0, .int .i64 0, .int .i64 0, .slice none 0 0, .int .i64 0] 24 (by simp))
  have HB0 := Lib.hid (al2 (w := w) (o1 := .cells #[.int .i64 a, .int .i64 b, .int .i64 c, .int .i64 d, .slice sa l.length sc, .int .i64 t] 24) (o2 := .cells #[.int .i64 0, .int .i64 0, .int .i64 0, .int .i64 0, .slice none 0 0, .int .i64 0] 24))
  replace hk := Lib.hid hk
  replace hv := Lib.hid hv
  have HZ := Lib.hid (show w.heap.size + 1 < ((w.alloc (.cells #[.int .i64 a, .int .i64 b, .int .i64 c, .int .i64 d, .slice sa l.length sc, .int .i64 t] 24)).alloc (.cells #[.int .i64 0, .int .i64 0, .int .i64 0, .int .i64 0, .slice none 0 0, .int .i64 0] 24)).heap.size by simp)
  have HC1 := Lib.hid (Cs.set HC0.out 5 (by simp) (.int .i64 0) (vs' := #[.int .i64 a, .int .i64 b, .int .i64 c, .int .i64 d, .slice sa l.length sc, .int .i64 0]) rfl)
  have HR1 := Lib.hid (Cs.other HR0.out (b := w.heap.size) (by omega) 5 (.int .i64 0))
  have HB1 := Lib.hid (HB0.out.setCell (p := ⟨w.heap.size, 5, none⟩) (Nat.le_refl _) (.int .i64 0))
  have x0 := HC0.out.c 0 rfl
  have x1 := HC0.out.c 1 rfl
  have x2 := HC0.out.c 2 rfl
  have x3 := HC0.out.c 3 rfl
  have x4 := HC0.out.c 4 rfl
  have x5 := HC0.out.c 5 rfl
  have xz := HC0.out.2.2
  have f0 := HC0.out.f 0 (by simp)
  have f1 := HC0.out.f 1 (by simp)
  have f2 := HC0.out.f 2 (by simp)
  have f3 := HC0.out.f 3 (by simp)
  have f4 := HC0.out.f 4 (by simp)
  have f5 := HC0.out.f 5 (by simp)
  obtain ⟨W1, hW1⟩ : ∃ z, ((w.alloc (.cells #[.int .i64 a, .int .i64 b, .int .i64 c, .int .i64 d, .slice sa l.length sc, .int .i64 t] 24)).alloc (.cells #[.int .i64 0, .int .i64 0, .int .i64 0, .int .i64 0, .slice none 0 0, .int .i64 0] 24)).setCell ⟨w.heap.size, 5, none⟩ (.int .i64 0) = z := ⟨_, rfl⟩
  rw [hW1] at HC1 HR1 HB1
  have HL1 := Lib.hid (HL0.out.step HB1.out)
  have HZ1 := Lib.hid (show w.heap.size + 1 < W1.heap.size from HR1.out.2.2)
  have c0 := HC1.out.c 0 rfl
  have c1 := HC1.out.c 1 rfl
  have c2 := HC1.out.c 2 rfl
  have c3 := HC1.out.c 3 rfl
  have c4 := HC1.out.c 4 rfl
  have c5 := HC1.out.c 5 rfl
  have cz := HC1.out.2.2
  have r0 := HR1.out.c 0 rfl
  have r1 := HR1.out.c 1 rfl
  have r2 := HR1.out.c 2 rfl
  have r3 := HR1.out.c 3 rfl
  have r4 := HR1.out.c 4 rfl
  have r5 := HR1.out.c 5 rfl
  have rz := HR1.out.2.2
  have p0 := HR1.out.f 0 (by simp)
  have p1 := HR1.out.f 1 (by simp)
  have p2 := HR1.out.f 2 (by simp)
  have p3 := HR1.out.f 3 (by simp)
  have p4 := HR1.out.f 4 (by simp)
  have p5 := HR1.out.f 5 (by simp)
  go_enter Try.func12, Try.ntmps12
  go_wp2_with fail
  refine (rkey_any key _ hk.out _).mono ?_
  rintro e w' ⟨rfl, rfl⟩
  go_wp2_with fail
  refine (rvalid_any a b c d _ l 0 _ HL1.out _ hv.out).mono ?_
  rintro e w2 ⟨rfl, b2⟩
  have HC2 := Lib.hid (HC1.out.step b2)
  have HR2 := Lib.hid (HR1.out.step b2)
  have HB2 := Lib.hid (keep2 b2 HB1.out)
  have HL2 := Lib.hid (HL1.out.step b2)
  have HZ2 := Lib.hid (show w.heap.size + 1 < w2.heap.size from HR2.out.2.2)
  clear b2 c0 c1 c2 c3 c4 c5 cz r0 r1 r2 r3 r4 r5 rz p0 p1 p2 p3 p4 p5 x0 x1 x2 x3 x4 x5 xz f0 f1 f2 f3 f4 f5
  have h32 := Lib.hid (va_parts hv.out).2.2.2.2.2.1
  have x0 := HC2.out.c 0 rfl
  have x1 := HC2.out.c 1 rfl
  have x2 := HC2.out.c 2 rfl
  have x3 := HC2.out.c 3 rfl
  have x4 := HC2.out.c 4 rfl
  have x5 := HC2.out.c 5 rfl
  have xz := HC2.out.2.2
  have f0 := HC2.out.f 0 (by simp)
  have f1 := HC2.out.f 1 (by simp)
  have f2 := HC2.out.f 2 (by simp)
  have f3 := HC2.out.f 3 (by simp)
  have f4 := HC2.out.f 4 (by simp)
  have f5 := HC2.out.f 5 (by simp)
  go_wp2_with fail
  refine (conts_any a b c d _ l 0 _ HL2.out (by have := h32.out; omega)).mono ?_
  rintro e w3 ⟨u, rfl, hu, b3⟩
  have HU := Lib.hid hu
  have HC3 := Lib.hid (HC2.out.step b3)
  have HR3 := Lib.hid (HR2.out.step b3)
  have HB3 := Lib.hid (keep2 b3 HB2.out)
  clear b3 hu x0 x1 x2 x3 x4 x5 xz f0 f1 f2 f3 f4 f5
  go_wp2_with fail
  refine (rtag_any key u (cts a b c d l) _ HU.out (by rw [cts_len]; have := h32.out; omega) (by simp [cts])).mono ?_
  rintro e w5 ⟨rfl, b5⟩
  obtain ⟨T, hT⟩ : ∃ z, Dg (key :: ((cts a b c d l).length : Int) :: cts a b c d l) = z := ⟨_, rfl⟩
  rw [hT]
  have HT := Lib.hid (show tgF key a b c d l = T from hT)
  have HC5 := Lib.hid (HC3.out.step b5)
  have HR5 := Lib.hid (HR3.out.step b5)
  have HB5 := Lib.hid (keep2 b5 HB3.out)
  clear b5 hT
  have HC6 := Lib.hid (Cs.set HC5.out 5 (by simp) (.int .i64 T) (vs' := #[.int .i64 a, .int .i64 b, .int .i64 c, .int .i64 d, .slice sa l.length sc, .int .i64 T]) rfl)
  have HR6 := Lib.hid (Cs.other HR5.out (b := w.heap.size) (by omega) 5 (.int .i64 T))
  have HB6 := Lib.hid (HB5.out.setCell (p := ⟨w.heap.size, 5, none⟩) (Nat.le_refl _) (.int .i64 T))
  have x0 := HC5.out.c 0 rfl
  have x1 := HC5.out.c 1 rfl
  have x2 := HC5.out.c 2 rfl
  have x3 := HC5.out.c 3 rfl
  have x4 := HC5.out.c 4 rfl
  have x5 := HC5.out.c 5 rfl
  have xz := HC5.out.2.2
  have f0 := HC5.out.f 0 (by simp)
  have f1 := HC5.out.f 1 (by simp)
  have f2 := HC5.out.f 2 (by simp)
  have f3 := HC5.out.f 3 (by simp)
  have f4 := HC5.out.f 4 (by simp)
  have f5 := HC5.out.f 5 (by simp)
  obtain ⟨W6, hW6⟩ : ∃ z, w5.setCell ⟨w.heap.size, 5, none⟩ (.int .i64 T) = z := ⟨_, rfl⟩
  rw [hW6] at HC6 HR6 HB6
  have c0 := HC6.out.c 0 rfl
  have c1 := HC6.out.c 1 rfl
  have c2 := HC6.out.c 2 rfl
  have c3 := HC6.out.c 3 rfl
  have c4 := HC6.out.c 4 rfl
  have c5 := HC6.out.c 5 rfl
  have cz := HC6.out.2.2
  have r0 := HR6.out.c 0 rfl
  have r1 := HR6.out.c 1 rfl
  have r2 := HR6.out.c 2 rfl
  have r3 := HR6.out.c 3 rfl
  have r4 := HR6.out.c 4 rfl
  have r5 := HR6.out.c 5 rfl
  have rz := HR6.out.2.2
  have p0 := HR6.out.f 0 (by simp)
  have p1 := HR6.out.f 1 (by simp)
  have p2 := HR6.out.f 2 (by simp)
  have p3 := HR6.out.f 3 (by simp)
  have p4 := HR6.out.f 4 (by simp)
  have p5 := HR6.out.f 5 (by simp)
  go_wp2_with fail
  refine (fun (h : ∀ W : World, Cs W (w.heap.size + 1) #[.int .i64 a, .int .i64 b, .int .i64 c, .int .i64 d, .slice sa l.length sc, .int .i64 T] → Below w.heap.size w W → bodyPost Try.prog Try.f12 _ Exit.ret _ W) => h _ (cs_store6 HR6.out _ _ _ _ _ _) (bel_store6 HB6.out (Nat.le_succ _) _ _ _ _ _ _)) ?_
  intro W hC hB
  have k0 : W.cell? ⟨w.heap.size + 1, 0, none⟩ = some (.int .i64 a) := hC.c 0 rfl
  have k1 : W.cell? ⟨w.heap.size + 1, 1, none⟩ = some (.int .i64 b) := hC.c 1 rfl
  have k2 : W.cell? ⟨w.heap.size + 1, 2, none⟩ = some (.int .i64 c) := hC.c 2 rfl
  have k3 : W.cell? ⟨w.heap.size + 1, 3, none⟩ = some (.int .i64 d) := hC.c 3 rfl
  have k4 : W.cell? ⟨w.heap.size + 1, 4, none⟩ = some (.slice sa l.length sc) := hC.c 4 rfl
  have k5 : W.cell? ⟨w.heap.size + 1, 5, none⟩ = some (.int .i64 T) := hC.c 5 rfl
  exact bodyPost_ret (v := .tuple #[.agg #[.int .i64 a, .int .i64 b, .int .i64 c, .int .i64 d, .slice sa l.length sc, .int .i64 T], .int .i64 0]) (by simp [results, Try.results12, go_sem, k0, k1, k2, k3, k4, k5]) rfl ⟨_, by rw [HT.out], HL0.out.step hB, hB⟩
set_option maxRecDepth 100000 in
set_option maxHeartbeats 8000000 in
theorem ropen_no1 (key : Int) (a b c d : Int) (sl : Value) (l : List Int) (t : Int) (w : World) (h : IntsAt w sl l) (hk : tgB key = false) : Calls Try.prog 21 #[.int .i64 key, .agg #[.int .i64 a, .int .i64 b, .int .i64 c, .int .i64 d, sl, .int .i64 t]] w fun e w' => e = .returned (.int .i64 1) ∧ Below w.heap.size w w' := by
  have HL0 := Lib.hid h
  obtain ⟨sa, sc, rfl, hm, -⟩ := h
  have HC0 := Lib.hid (Cs.new w w.heap.size #[.int .i64 a, .int .i64 b, .int .i64 c, .int .i64 d, .slice sa l.length sc, .int .i64 t] 24 rfl)
  have HB0 := Lib.hid (al w (.cells #[.int .i64 a, .int .i64 b, .int .i64 c, .int .i64 d, .slice sa l.length sc, .int .i64 t] 24))
  have HL1 := Lib.hid (HL0.out.step HB0.out)
  replace hk := Lib.hid hk
  have x0 := HC0.out.c 0 rfl
  have x1 := HC0.out.c 1 rfl
  have x2 := HC0.out.c 2 rfl
  have x3 := HC0.out.c 3 rfl
  have x4 := HC0.out.c 4 rfl
  have x5 := HC0.out.c 5 rfl
  have xz := HC0.out.2.2
  go_enter Try.func21, Try.ntmps21
  go_wp2_with fail
  refine (rkey_any key _ hk.out _).mono ?_
  rintro e w' ⟨rfl, rfl⟩
  go_wp2
  go_ret
  exact ⟨rfl, HB0.out⟩
set_option maxRecDepth 100000 in
set_option maxHeartbeats 8000000 in
theorem ropen_no2 (key : Int) (a b c d : Int) (sl : Value) (l : List Int) (t : Int) (w : World) (h : IntsAt w sl l) (hk : tgB key = true) (hv : vaB a b c d l t = false) : Calls Try.prog 21 #[.int .i64 key, .agg #[.int .i64 a, .int .i64 b, .int .i64 c, .int .i64 d, sl, .int .i64 t]] w fun e w' => e = .returned (.int .i64 1) ∧ Below w.heap.size w w' := by
  have HL0 := Lib.hid h
  obtain ⟨sa, sc, rfl, hm, -⟩ := h
  have HC0 := Lib.hid (Cs.new w w.heap.size #[.int .i64 a, .int .i64 b, .int .i64 c, .int .i64 d, .slice sa l.length sc, .int .i64 t] 24 rfl)
  have HB0 := Lib.hid (al w (.cells #[.int .i64 a, .int .i64 b, .int .i64 c, .int .i64 d, .slice sa l.length sc, .int .i64 t] 24))
  have HL1 := Lib.hid (HL0.out.step HB0.out)
  replace hk := Lib.hid hk
  replace hv := Lib.hid hv
  have x0 := HC0.out.c 0 rfl
  have x1 := HC0.out.c 1 rfl
  have x2 := HC0.out.c 2 rfl
  have x3 := HC0.out.c 3 rfl
  have x4 := HC0.out.c 4 rfl
  have x5 := HC0.out.c 5 rfl
  have xz := HC0.out.2.2
  go_enter Try.func21, Try.ntmps21
  go_wp2_with fail
  refine (rkey_any key _ hk.out _).mono ?_
  rintro e w' ⟨rfl, rfl⟩
  go_wp2_with fail
  refine (rvalid_any a b c d _ l t _ HL1.out _ hv.out).mono ?_
  rintro e w2 ⟨rfl, b2⟩
  have HC2 := Lib.hid (HC0.out.step b2)
  have HB2 := Lib.hid (keep2 b2 HB0.out)
  have HL2 := Lib.hid (HL1.out.step b2)
  clear b2 x0 x1 x2 x3 x4 x5 xz
  go_wp2
  go_ret
  exact ⟨rfl, HB2.out⟩
set_option maxRecDepth 100000 in
set_option maxHeartbeats 8000000 in
theorem ropen_yes (key : Int) (a b c d : Int) (sl : Value) (l : List Int) (t : Int) (w : World) (h : IntsAt w sl l) (hk : tgB key = true) (hv : vaB a b c d l t = true) (hq : t = tgF key a b c d l) : Calls Try.prog 21 #[.int .i64 key, .agg #[.int .i64 a, .int .i64 b, .int .i64 c, .int .i64 d, sl, .int .i64 t]] w fun e w' => e = .returned (.int .i64 0) ∧ Below w.heap.size w w' := by
  have HL0 := Lib.hid h
  obtain ⟨sa, sc, rfl, hm, -⟩ := h
  have HC0 := Lib.hid (Cs.new w w.heap.size #[.int .i64 a, .int .i64 b, .int .i64 c, .int .i64 d, .slice sa l.length sc, .int .i64 t] 24 rfl)
  have HB0 := Lib.hid (al w (.cells #[.int .i64 a, .int .i64 b, .int .i64 c, .int .i64 d, .slice sa l.length sc, .int .i64 t] 24))
  have HL1 := Lib.hid (HL0.out.step HB0.out)
  replace hk := Lib.hid hk
  replace hv := Lib.hid hv
  replace hq := Lib.hid hq
  have x0 := HC0.out.c 0 rfl
  have x1 := HC0.out.c 1 rfl
  have x2 := HC0.out.c 2 rfl
  have x3 := HC0.out.c 3 rfl
  have x4 := HC0.out.c 4 rfl
  have x5 := HC0.out.c 5 rfl
  have xz := HC0.out.2.2
  go_enter Try.func21, Try.ntmps21
  go_wp2_with fail
  refine (rkey_any key _ hk.out _).mono ?_
  rintro e w' ⟨rfl, rfl⟩
  go_wp2_with fail
  refine (rvalid_any a b c d _ l t _ HL1.out _ hv.out).mono ?_
  rintro e w2 ⟨rfl, b2⟩
  have HC2 := Lib.hid (HC0.out.step b2)
  have HB2 := Lib.hid (keep2 b2 HB0.out)
  have HL2 := Lib.hid (HL1.out.step b2)
  clear b2 x0 x1 x2 x3 x4 x5 xz
  have h32 := Lib.hid (va_parts hv.out).2.2.2.2.2.1
  obtain ⟨T, hT⟩ : ∃ z, tgF key a b c d l = z := ⟨_, rfl⟩
  rw [hT] at hq
  have HTD := Lib.hid (show Dg (key :: ((cts a b c d l).length : Int) :: cts a b c d l) = T from hT)
  clear hT
  have x0 := HC2.out.c 0 rfl
  have x1 := HC2.out.c 1 rfl
  have x2 := HC2.out.c 2 rfl
  have x3 := HC2.out.c 3 rfl
  have x4 := HC2.out.c 4 rfl
  have x5 := HC2.out.c 5 rfl
  have xz := HC2.out.2.2
  have e1 : (t == T) = true := by simpa using hq.out
  have e2 : (t != T) = false := by simpa using hq.out
  have e3 : (t = T) = True := by simpa using hq.out
  go_wp2_with fail
  go_upto_region 3 with fail
  go_region_law (first | (go_simp; go_at_call 28; refine (conts_any a b c d _ l t _ (HL2.out.step (below_drew _ _)) (by have := h32.out; omega)).mono ?_; rintro e w3 ⟨u, rfl, hu, b3⟩; have HU := Lib.hid hu; have HB3 := Lib.hid (keep2 b3 (keep2 (below_drew _ _) HB2.out)); have HC3 := Lib.hid (HC2.out.step (keep2 b3 (below_drew _ _))); clear hu b3; have y0 := HC3.out.c 0 rfl; have y1 := HC3.out.c 1 rfl; have y2 := HC3.out.c 2 rfl; have y3 := HC3.out.c 3 rfl; have y4 := HC3.out.c 4 rfl; have y5 := HC3.out.c 5 rfl; have yz := HC3.out.2.2) | (go_simp; go_at_call 38; refine (rtag_any key u (cts a b c d l) _ HU.out (by rw [cts_len]; have := h32.out; omega) (by simp [cts])).mono ?_; rintro e w5 ⟨rfl, b5⟩; rw [HTD.out]; have HB5 := Lib.hid (keep2 b5 HB3.out); have HC5 := Lib.hid (HC3.out.step b5); have v0 := HC5.out.c 0 rfl; have v5 := HC5.out.c 5 rfl; have vz := HC5.out.2.2; clear b5))
  all_goals go_wp2
  all_goals go_ret
  all_goals exact ⟨rfl, HB5.out⟩
set_option maxRecDepth 100000 in
set_option maxHeartbeats 8000000 in
theorem ropen_tag (key : Int) (a b c d : Int) (sl : Value) (l : List Int) (t : Int) (w : World) (h : IntsAt w sl l) (hk : tgB key = true) (hv : vaB a b c d l t = true) (hq : t ≠ tgF key a b c d l) : Calls Try.prog 21 #[.int .i64 key, .agg #[.int .i64 a, .int .i64 b, .int .i64 c, .int .i64 d, sl, .int .i64 t]] w fun e w' => e = .returned (.int .i64 15) ∧ Below w.heap.size w w' := by
  have HL0 := Lib.hid h
  obtain ⟨sa, sc, rfl, hm, -⟩ := h
  have HC0 := Lib.hid (Cs.new w w.heap.size #[.int .i64 a, .int .i64 b, .int .i64 c, .int .i64 d, .slice sa l.length sc, .int .i64 t] 24 rfl)
  have HB0 := Lib.hid (al w (.cells #[.int .i64 a, .int .i64 b, .int .i64 c, .int .i64 d, .slice sa l.length sc, .int .i64 t] 24))
  have HL1 := Lib.hid (HL0.out.step HB0.out)
  replace hk := Lib.hid hk
  replace hv := Lib.hid hv
  replace hq := Lib.hid hq
  have x0 := HC0.out.c 0 rfl
  have x1 := HC0.out.c 1 rfl
  have x2 := HC0.out.c 2 rfl
  have x3 := HC0.out.c 3 rfl
  have x4 := HC0.out.c 4 rfl
  have x5 := HC0.out.c 5 rfl
  have xz := HC0.out.2.2
  go_enter Try.func21, Try.ntmps21
  go_wp2_with fail
  refine (rkey_any key _ hk.out _).mono ?_
  rintro e w' ⟨rfl, rfl⟩
  go_wp2_with fail
  refine (rvalid_any a b c d _ l t _ HL1.out _ hv.out).mono ?_
  rintro e w2 ⟨rfl, b2⟩
  have HC2 := Lib.hid (HC0.out.step b2)
  have HB2 := Lib.hid (keep2 b2 HB0.out)
  have HL2 := Lib.hid (HL1.out.step b2)
  clear b2 x0 x1 x2 x3 x4 x5 xz
  have h32 := Lib.hid (va_parts hv.out).2.2.2.2.2.1
  obtain ⟨T, hT⟩ : ∃ z, tgF key a b c d l = z := ⟨_, rfl⟩
  rw [hT] at hq
  have HTD := Lib.hid (show Dg (key :: ((cts a b c d l).length : Int) :: cts a b c d l) = T from hT)
  clear hT
  have x0 := HC2.out.c 0 rfl
  have x1 := HC2.out.c 1 rfl
  have x2 := HC2.out.c 2 rfl
  have x3 := HC2.out.c 3 rfl
  have x4 := HC2.out.c 4 rfl
  have x5 := HC2.out.c 5 rfl
  have xz := HC2.out.2.2
  have e1 : (t == T) = false := by simpa using hq.out
  have e2 : (t != T) = true := by simpa using hq.out
  have e3 : (t = T) = False := by simpa using hq.out
  go_wp2_with fail
  go_upto_region 3 with fail
  go_region_law (first | (go_simp; go_at_call 28; refine (conts_any a b c d _ l t _ (HL2.out.step (below_drew _ _)) (by have := h32.out; omega)).mono ?_; rintro e w3 ⟨u, rfl, hu, b3⟩; have HU := Lib.hid hu; have HB3 := Lib.hid (keep2 b3 (keep2 (below_drew _ _) HB2.out)); have HC3 := Lib.hid (HC2.out.step (keep2 b3 (below_drew _ _))); clear hu b3; have y0 := HC3.out.c 0 rfl; have y1 := HC3.out.c 1 rfl; have y2 := HC3.out.c 2 rfl; have y3 := HC3.out.c 3 rfl; have y4 := HC3.out.c 4 rfl; have y5 := HC3.out.c 5 rfl; have yz := HC3.out.2.2) | (go_simp; go_at_call 38; refine (rtag_any key u (cts a b c d l) _ HU.out (by rw [cts_len]; have := h32.out; omega) (by simp [cts])).mono ?_; rintro e w5 ⟨rfl, b5⟩; rw [HTD.out]; have HB5 := Lib.hid (keep2 b5 HB3.out); have HC5 := Lib.hid (HC3.out.step b5); have v0 := HC5.out.c 0 rfl; have v5 := HC5.out.c 5 rfl; have vz := HC5.out.2.2; clear b5))
  all_goals go_wp2
  all_goals go_ret
  all_goals exact ⟨rfl, HB5.out⟩
end Go.Proofs.Ytebeaekiaikgmaa
