/- The window: 'Accept', any number (refused). -/
import Derived.Test.YtkamkkjijjkfdaaXa
namespace Go.Proofs.Ytkamkkjijjkfdaa
open Go.RowKit

set_option maxRecDepth 100000 in
set_option maxHeartbeats 8000000 in
theorem accept_w0 (t : Int) (a : Option Addr) (n c : Nat) (L : List Bool) (seq : Int) (w : World) (h : BosAt w (.slice a n c) L) (hn : L.length = n) (h9 : n ≤ 100000) (hi : IsW t a n c L false) : Calls Try.prog 51 #[.agg #[.int .i64 t, .slice a n c], .int .i64 seq] w (AcP w t L 1) := by
  have HQ := Lib.hid hn
  have H9 := Lib.hid h9
  replace hi := Lib.hid hi
  have HC0 := Lib.hid ((Cs.new w w.heap.size #[.int .i64 t, .slice a n c] 27 rfl).alloc (.cells #[.int .i64 0, .slice none 0 0] 27))
  have HR0 := Lib.hid (Cs.new (w.alloc (.cells #[.int .i64 t, .slice a n c] 27)) (w.heap.size + 1) #[.int .i64 0, .slice none 0 0] 27 (by simp))
  have HB0 := Lib.hid (al2 (w := w) (o1 := .cells #[.int .i64 t, .slice a n c] 27) (o2 := .cells #[.int .i64 0, .slice none 0 0] 27))
  have HL0 := Lib.hid (h.step HB0.out)
  clear h hn h9
  go_enter Try.func51, Try.ntmps51
  go_upto_region 1 with fail
  generalize ((w.alloc (.cells #[.int .i64 t, .slice a n c] 27)).alloc (.cells #[.int .i64 0, .slice none 0 0] 27)) = wq at *
  go_cut [6] from 8 to 14 (fun p wc => AcG wq t n L p wc)
  case first =>
    have c0 : wq.cell? ⟨w.heap.size, 0, none⟩ = some (.int .i64 t) := HC0.out.c 0 rfl
    have c1 : wq.cell? ⟨w.heap.size, 1, none⟩ = some (.slice a n c) := HC0.out.c 1 rfl
    have d0 : (wq.alloc (.cells #[.int .i64 0, .slice none 0 0] 27)).cell? ⟨w.heap.size, 0, none⟩ = some (.int .i64 t) := (HC0.out.alloc _).c 0 rfl
    have d1 : (wq.alloc (.cells #[.int .i64 0, .slice none 0 0] 27)).cell? ⟨w.heap.size, 1, none⟩ = some (.slice a n c) := (HC0.out.alloc _).c 1 rfl
    go_region_law (go_simp; go_at_call 49; refine (bo_clone (.slice a n c) L _ (HL0.out.step (by first | exact below_drew _ _ | exact (al _ _).trans (below_drew _ _))) (by rw [HQ.out]; exact H9.out)).mono ?_; rintro e w3 ⟨u, rfl, hu, b3⟩; rw [HQ.out] at hu; obtain ⟨ua, uc, rfl⟩ := row_slice hu; have HU := Lib.hid hu; have B3 := Lib.hid b3; have HW3 := Lib.hid (show Below wq.heap.size wq w3 from by first | exact (below_drew _ _).trans b3 | exact keep2 b3 ((al wq _).trans (below_drew _ _))); have m0 : w3.cell? ⟨w.heap.size, 0, none⟩ = some (.int .i64 t) := (HC0.out.step HW3.out).c 0 rfl; have m1 : w3.cell? ⟨w.heap.size, 1, none⟩ = some (.slice a n c) := (HC0.out.step HW3.out).c 1 rfl; have n0 : (w3.alloc (.cells #[.int .i64 0, .slice none 0 0] 27)).cell? ⟨w.heap.size, 0, none⟩ = some (.int .i64 t) := ((HC0.out.step HW3.out).alloc _).c 0 rfl; have n1 : (w3.alloc (.cells #[.int .i64 0, .slice none 0 0] 27)).cell? ⟨w.heap.size, 1, none⟩ = some (.slice a n c) := ((HC0.out.step HW3.out).alloc _).c 1 rfl; (first | (have HQB := Lib.hid (show wq.heap.size < (wq.alloc (.cells #[.int .i64 0, .slice none 0 0] 27)).drew.heap.size by simp); have HU2 := Lib.hid (show w3.ownsRow (wq.alloc (.cells #[.int .i64 0, .slice none 0 0] 27)).drew.heap.size 4 1 (.slice ua n uc) n (L.map Value.bool) from hu); have HQ3 := Lib.hid (show Cs w3 wq.heap.size #[.int .i64 0, .slice none 0 0] from ((Cs.new wq wq.heap.size #[.int .i64 0, .slice none 0 0] 27 rfl).step (below_drew _ _)).step b3); have q0 : w3.cell? ⟨wq.heap.size, 0, none⟩ = some (.int .i64 0) := (((Cs.new wq wq.heap.size #[.int .i64 0, .slice none 0 0] 27 rfl).step (below_drew _ _)).step b3).c 0 rfl; have q1 : w3.cell? ⟨wq.heap.size, 1, none⟩ = some (.slice none 0 0) := (((Cs.new wq wq.heap.size #[.int .i64 0, .slice none 0 0] 27 rfl).step (below_drew _ _)).step b3).c 1 rfl; have g0 := (((Cs.new wq wq.heap.size #[.int .i64 0, .slice none 0 0] 27 rfl).step (below_drew _ _)).step b3).f 0 (by simp); have g1 := (((Cs.new wq wq.heap.size #[.int .i64 0, .slice none 0 0] 27 rfl).step (below_drew _ _)).step b3).f 1 (by simp)) | (have HQA := Lib.hid (show wq.heap.size ≤ wq.drew.heap.size from Nat.le_refl _))); clear hu b3)
    all_goals go_wp2
    all_goals go_meet
    all_goals first | with_reducible exact AcG.after HW3.out HU.out HQA.out | with_reducible exact AcG.before HW3.out HU2.out HQB.out HQ3.out
  case rest =>
    obtain ⟨g, uc, ua, rfl, hg, hne, hcs, hrow, hb⟩ := hcut
    have HNE := Lib.hid hne
    clear hne
    have HC1 := Lib.hid (HC0.out.step hb)
    have HR1 := Lib.hid (HR0.out.step hb)
    have HB1 := Lib.hid (keep2 hb HB0.out)
    have HL1 := Lib.hid (HL0.out.step hb)
    have HN1 := Lib.hid hcs
    have HO1 := Lib.hid hrow
    have HZ := Lib.hid (show w.heap.size + 1 < wq.heap.size from HR0.out.2.2)
    have HNN := Lib.hid hg
    clear hcs hb hrow hg HC0 HR0 HL0 HB0
    have c0 : wc.cell? ⟨w.heap.size, 0, none⟩ = some (.int .i64 t) := HC1.out.c 0 rfl
    have c1 : wc.cell? ⟨w.heap.size, 1, none⟩ = some (.slice a n c) := HC1.out.c 1 rfl
    go_wp2_with fail
    refine (hi.out _ HL1.out).mono ?_
    rintro e w4 ⟨rfl, b4⟩
    have HC4 := Lib.hid (HC1.out.step b4)
    have HR4 := Lib.hid (HR1.out.step b4)
    have HB4 := Lib.hid (keep2 b4 HB1.out)
    have HL4 := Lib.hid (HL1.out.step b4)
    have HN4 := Lib.hid (HN1.out.step b4)
    have HO4 := Lib.hid (row_step HO1.out b4)
    clear b4 c0 c1 HC1 HR1 HB1 HL1 HN1 HO1
    have c0 : w4.cell? ⟨w.heap.size, 0, none⟩ = some (.int .i64 t) := HC4.out.c 0 rfl
    have c1 : w4.cell? ⟨w.heap.size, 1, none⟩ = some (.slice a n c) := HC4.out.c 1 rfl
    have r0 : w4.cell? ⟨w.heap.size + 1, 0, none⟩ = some (.int .i64 0) := HR4.out.c 0 rfl
    have r1 : w4.cell? ⟨w.heap.size + 1, 1, none⟩ = some (.slice none 0 0) := HR4.out.c 1 rfl
    have p0 := HR4.out.f 0 (by simp)
    have p1 := HR4.out.f 1 (by simp)
    have n0 : w4.cell? ⟨g, 0, none⟩ = some (.int .i64 t) := HN4.out.c 0 rfl
    have n1 : w4.cell? ⟨g, 1, none⟩ = some (.slice ua n uc) := HN4.out.c 1 rfl
    have hng : ¬ (g = w.heap.size + 1) := by have := HNN.out; have := HZ.out; omega
    have hgn : ¬ (w.heap.size + 1 = g) := fun e => hng e.symm
    go_wp2_with fail
    refine (fun (h : ∀ W : World, Cs W (w.heap.size + 1) #[.int .i64 t, .slice ua n uc] → BosAt W (.slice ua n uc) L → Below w.heap.size w W → bodyPost Try.prog Try.f51 _ Exit.ret _ W) => h _ (Cs.set (Cs.set HR4.out 0 (by simp) (.int .i64 t) rfl) 1 (by simp) (.slice ua n uc) (vs' := #[.int .i64 t, .slice ua n uc]) rfl) (bos_row HQ.out (ownsRow_setCell_below (ownsRow_setCell_below HO4.out (a := ⟨w.heap.size + 1, 0, none⟩) HZ.out _) (a := ⟨w.heap.size + 1, 1, none⟩) HZ.out _)) ((HB4.out.setCell (p := ⟨w.heap.size + 1, 0, none⟩) (Nat.le_succ _) _).setCell (p := ⟨w.heap.size + 1, 1, none⟩) (Nat.le_succ _) _)) ?_
    intro W hC hO hB
    have k0 : W.cell? ⟨w.heap.size + 1, 0, none⟩ = some (.int .i64 t) := hC.c 0 rfl
    have k1 : W.cell? ⟨w.heap.size + 1, 1, none⟩ = some (.slice ua n uc) := hC.c 1 rfl
    exact bodyPost_ret (v := .tuple #[.agg #[.int .i64 t, .slice ua n uc], .int .i64 1]) (by simp [results, Try.results51, go_sem, k0, k1]) rfl (AcP.mk HQ.out (row_cap HO4.out) hO hB)
set_option maxRecDepth 100000 in
set_option maxHeartbeats 8000000 in
theorem accept_neg (t : Int) (a : Option Addr) (n c : Nat) (L : List Bool) (seq : Int) (w : World) (h : BosAt w (.slice a n c) L) (hn : L.length = n) (h9 : n ≤ 100000) (hi : IsW t a n c L true) (hs : seq < 0) : Calls Try.prog 51 #[.agg #[.int .i64 t, .slice a n c], .int .i64 seq] w (AcP w t L 1) := by
  have HQ := Lib.hid hn
  have H9 := Lib.hid h9
  replace hi := Lib.hid hi
  replace hs := Lib.hid hs
  have HC0 := Lib.hid ((Cs.new w w.heap.size #[.int .i64 t, .slice a n c] 27 rfl).alloc (.cells #[.int .i64 0, .slice none 0 0] 27))
  have HR0 := Lib.hid (Cs.new (w.alloc (.cells #[.int .i64 t, .slice a n c] 27)) (w.heap.size + 1) #[.int .i64 0, .slice none 0 0] 27 (by simp))
  have HB0 := Lib.hid (al2 (w := w) (o1 := .cells #[.int .i64 t, .slice a n c] 27) (o2 := .cells #[.int .i64 0, .slice none 0 0] 27))
  have HL0 := Lib.hid (h.step HB0.out)
  clear h hn h9
  go_enter Try.func51, Try.ntmps51
  go_upto_region 1 with fail
  generalize ((w.alloc (.cells #[.int .i64 t, .slice a n c] 27)).alloc (.cells #[.int .i64 0, .slice none 0 0] 27)) = wq at *
  go_cut [6] from 8 to 14 (fun p wc => AcG wq t n L p wc)
  case first =>
    have c0 : wq.cell? ⟨w.heap.size, 0, none⟩ = some (.int .i64 t) := HC0.out.c 0 rfl
    have c1 : wq.cell? ⟨w.heap.size, 1, none⟩ = some (.slice a n c) := HC0.out.c 1 rfl
    have d0 : (wq.alloc (.cells #[.int .i64 0, .slice none 0 0] 27)).cell? ⟨w.heap.size, 0, none⟩ = some (.int .i64 t) := (HC0.out.alloc _).c 0 rfl
    have d1 : (wq.alloc (.cells #[.int .i64 0, .slice none 0 0] 27)).cell? ⟨w.heap.size, 1, none⟩ = some (.slice a n c) := (HC0.out.alloc _).c 1 rfl
    go_region_law (go_simp; go_at_call 49; refine (bo_clone (.slice a n c) L _ (HL0.out.step (by first | exact below_drew _ _ | exact (al _ _).trans (below_drew _ _))) (by rw [HQ.out]; exact H9.out)).mono ?_; rintro e w3 ⟨u, rfl, hu, b3⟩; rw [HQ.out] at hu; obtain ⟨ua, uc, rfl⟩ := row_slice hu; have HU := Lib.hid hu; have B3 := Lib.hid b3; have HW3 := Lib.hid (show Below wq.heap.size wq w3 from by first | exact (below_drew _ _).trans b3 | exact keep2 b3 ((al wq _).trans (below_drew _ _))); have m0 : w3.cell? ⟨w.heap.size, 0, none⟩ = some (.int .i64 t) := (HC0.out.step HW3.out).c 0 rfl; have m1 : w3.cell? ⟨w.heap.size, 1, none⟩ = some (.slice a n c) := (HC0.out.step HW3.out).c 1 rfl; have n0 : (w3.alloc (.cells #[.int .i64 0, .slice none 0 0] 27)).cell? ⟨w.heap.size, 0, none⟩ = some (.int .i64 t) := ((HC0.out.step HW3.out).alloc _).c 0 rfl; have n1 : (w3.alloc (.cells #[.int .i64 0, .slice none 0 0] 27)).cell? ⟨w.heap.size, 1, none⟩ = some (.slice a n c) := ((HC0.out.step HW3.out).alloc _).c 1 rfl; (first | (have HQB := Lib.hid (show wq.heap.size < (wq.alloc (.cells #[.int .i64 0, .slice none 0 0] 27)).drew.heap.size by simp); have HU2 := Lib.hid (show w3.ownsRow (wq.alloc (.cells #[.int .i64 0, .slice none 0 0] 27)).drew.heap.size 4 1 (.slice ua n uc) n (L.map Value.bool) from hu); have HQ3 := Lib.hid (show Cs w3 wq.heap.size #[.int .i64 0, .slice none 0 0] from ((Cs.new wq wq.heap.size #[.int .i64 0, .slice none 0 0] 27 rfl).step (below_drew _ _)).step b3); have q0 : w3.cell? ⟨wq.heap.size, 0, none⟩ = some (.int .i64 0) := (((Cs.new wq wq.heap.size #[.int .i64 0, .slice none 0 0] 27 rfl).step (below_drew _ _)).step b3).c 0 rfl; have q1 : w3.cell? ⟨wq.heap.size, 1, none⟩ = some (.slice none 0 0) := (((Cs.new wq wq.heap.size #[.int .i64 0, .slice none 0 0] 27 rfl).step (below_drew _ _)).step b3).c 1 rfl; have g0 := (((Cs.new wq wq.heap.size #[.int .i64 0, .slice none 0 0] 27 rfl).step (below_drew _ _)).step b3).f 0 (by simp); have g1 := (((Cs.new wq wq.heap.size #[.int .i64 0, .slice none 0 0] 27 rfl).step (below_drew _ _)).step b3).f 1 (by simp)) | (have HQA := Lib.hid (show wq.heap.size ≤ wq.drew.heap.size from Nat.le_refl _))); clear hu b3)
    all_goals go_wp2
    all_goals go_meet
    all_goals first | with_reducible exact AcG.after HW3.out HU.out HQA.out | with_reducible exact AcG.before HW3.out HU2.out HQB.out HQ3.out
  case rest =>
    obtain ⟨g, uc, ua, rfl, hg, hne, hcs, hrow, hb⟩ := hcut
    have HNE := Lib.hid hne
    clear hne
    have HC1 := Lib.hid (HC0.out.step hb)
    have HR1 := Lib.hid (HR0.out.step hb)
    have HB1 := Lib.hid (keep2 hb HB0.out)
    have HL1 := Lib.hid (HL0.out.step hb)
    have HN1 := Lib.hid hcs
    have HO1 := Lib.hid hrow
    have HZ := Lib.hid (show w.heap.size + 1 < wq.heap.size from HR0.out.2.2)
    have HNN := Lib.hid hg
    clear hcs hb hrow hg HC0 HR0 HL0 HB0
    have c0 : wc.cell? ⟨w.heap.size, 0, none⟩ = some (.int .i64 t) := HC1.out.c 0 rfl
    have c1 : wc.cell? ⟨w.heap.size, 1, none⟩ = some (.slice a n c) := HC1.out.c 1 rfl
    go_wp2_with fail
    refine (hi.out _ HL1.out).mono ?_
    rintro e w4 ⟨rfl, b4⟩
    have HC4 := Lib.hid (HC1.out.step b4)
    have HR4 := Lib.hid (HR1.out.step b4)
    have HB4 := Lib.hid (keep2 b4 HB1.out)
    have HL4 := Lib.hid (HL1.out.step b4)
    have HN4 := Lib.hid (HN1.out.step b4)
    have HO4 := Lib.hid (row_step HO1.out b4)
    clear b4 c0 c1 HC1 HR1 HB1 HL1 HN1 HO1
    have c0 : w4.cell? ⟨w.heap.size, 0, none⟩ = some (.int .i64 t) := HC4.out.c 0 rfl
    have c1 : w4.cell? ⟨w.heap.size, 1, none⟩ = some (.slice a n c) := HC4.out.c 1 rfl
    have d0 : decide (seq < 0) = true := by have := hs.out; simp; omega
    have r0 : w4.cell? ⟨w.heap.size + 1, 0, none⟩ = some (.int .i64 0) := HR4.out.c 0 rfl
    have r1 : w4.cell? ⟨w.heap.size + 1, 1, none⟩ = some (.slice none 0 0) := HR4.out.c 1 rfl
    have p0 := HR4.out.f 0 (by simp)
    have p1 := HR4.out.f 1 (by simp)
    have n0 : w4.cell? ⟨g, 0, none⟩ = some (.int .i64 t) := HN4.out.c 0 rfl
    have n1 : w4.cell? ⟨g, 1, none⟩ = some (.slice ua n uc) := HN4.out.c 1 rfl
    have hng : ¬ (g = w.heap.size + 1) := by have := HNN.out; have := HZ.out; omega
    have hgn : ¬ (w.heap.size + 1 = g) := fun e => hng e.symm
    go_wp2_with fail
    refine (fun (h : ∀ W : World, Cs W (w.heap.size + 1) #[.int .i64 t, .slice ua n uc] → BosAt W (.slice ua n uc) L → Below w.heap.size w W → bodyPost Try.prog Try.f51 _ Exit.ret _ W) => h _ (Cs.set (Cs.set HR4.out 0 (by simp) (.int .i64 t) rfl) 1 (by simp) (.slice ua n uc) (vs' := #[.int .i64 t, .slice ua n uc]) rfl) (bos_row HQ.out (ownsRow_setCell_below (ownsRow_setCell_below HO4.out (a := ⟨w.heap.size + 1, 0, none⟩) HZ.out _) (a := ⟨w.heap.size + 1, 1, none⟩) HZ.out _)) ((HB4.out.setCell (p := ⟨w.heap.size + 1, 0, none⟩) (Nat.le_succ _) _).setCell (p := ⟨w.heap.size + 1, 1, none⟩) (Nat.le_succ _) _)) ?_
    intro W hC hO hB
    have k0 : W.cell? ⟨w.heap.size + 1, 0, none⟩ = some (.int .i64 t) := hC.c 0 rfl
    have k1 : W.cell? ⟨w.heap.size + 1, 1, none⟩ = some (.slice ua n uc) := hC.c 1 rfl
    exact bodyPost_ret (v := .tuple #[.agg #[.int .i64 t, .slice ua n uc], .int .i64 1]) (by simp [results, Try.results51, go_sem, k0, k1]) rfl (AcP.mk HQ.out (row_cap HO4.out) hO hB)
set_option maxRecDepth 100000 in
set_option maxHeartbeats 8000000 in
theorem accept_big (t : Int) (a : Option Addr) (n c : Nat) (L : List Bool) (seq : Int) (w : World) (h : BosAt w (.slice a n c) L) (hn : L.length = n) (h9 : n ≤ 100000) (hi : IsW t a n c L true) (hs : 1000000 < seq) : Calls Try.prog 51 #[.agg #[.int .i64 t, .slice a n c], .int .i64 seq] w (AcP w t L 1) := by
  have HQ := Lib.hid hn
  have H9 := Lib.hid h9
  replace hi := Lib.hid hi
  replace hs := Lib.hid hs
  have HC0 := Lib.hid ((Cs.new w w.heap.size #[.int .i64 t, .slice a n c] 27 rfl).alloc (.cells #[.int .i64 0, .slice none 0 0] 27))
  have HR0 := Lib.hid (Cs.new (w.alloc (.cells #[.int .i64 t, .slice a n c] 27)) (w.heap.size + 1) #[.int .i64 0, .slice none 0 0] 27 (by simp))
  have HB0 := Lib.hid (al2 (w := w) (o1 := .cells #[.int .i64 t, .slice a n c] 27) (o2 := .cells #[.int .i64 0, .slice none 0 0] 27))
  have HL0 := Lib.hid (h.step HB0.out)
  clear h hn h9
  go_enter Try.func51, Try.ntmps51
  go_upto_region 1 with fail
  generalize ((w.alloc (.cells #[.int .i64 t, .slice a n c] 27)).alloc (.cells #[.int .i64 0, .slice none 0 0] 27)) = wq at *
  go_cut [6] from 8 to 14 (fun p wc => AcG wq t n L p wc)
  case first =>
    have c0 : wq.cell? ⟨w.heap.size, 0, none⟩ = some (.int .i64 t) := HC0.out.c 0 rfl
    have c1 : wq.cell? ⟨w.heap.size, 1, none⟩ = some (.slice a n c) := HC0.out.c 1 rfl
    have d0 : (wq.alloc (.cells #[.int .i64 0, .slice none 0 0] 27)).cell? ⟨w.heap.size, 0, none⟩ = some (.int .i64 t) := (HC0.out.alloc _).c 0 rfl
    have d1 : (wq.alloc (.cells #[.int .i64 0, .slice none 0 0] 27)).cell? ⟨w.heap.size, 1, none⟩ = some (.slice a n c) := (HC0.out.alloc _).c 1 rfl
    go_region_law (go_simp; go_at_call 49; refine (bo_clone (.slice a n c) L _ (HL0.out.step (by first | exact below_drew _ _ | exact (al _ _).trans (below_drew _ _))) (by rw [HQ.out]; exact H9.out)).mono ?_; rintro e w3 ⟨u, rfl, hu, b3⟩; rw [HQ.out] at hu; obtain ⟨ua, uc, rfl⟩ := row_slice hu; have HU := Lib.hid hu; have B3 := Lib.hid b3; have HW3 := Lib.hid (show Below wq.heap.size wq w3 from by first | exact (below_drew _ _).trans b3 | exact keep2 b3 ((al wq _).trans (below_drew _ _))); have m0 : w3.cell? ⟨w.heap.size, 0, none⟩ = some (.int .i64 t) := (HC0.out.step HW3.out).c 0 rfl; have m1 : w3.cell? ⟨w.heap.size, 1, none⟩ = some (.slice a n c) := (HC0.out.step HW3.out).c 1 rfl; have n0 : (w3.alloc (.cells #[.int .i64 0, .slice none 0 0] 27)).cell? ⟨w.heap.size, 0, none⟩ = some (.int .i64 t) := ((HC0.out.step HW3.out).alloc _).c 0 rfl; have n1 : (w3.alloc (.cells #[.int .i64 0, .slice none 0 0] 27)).cell? ⟨w.heap.size, 1, none⟩ = some (.slice a n c) := ((HC0.out.step HW3.out).alloc _).c 1 rfl; (first | (have HQB := Lib.hid (show wq.heap.size < (wq.alloc (.cells #[.int .i64 0, .slice none 0 0] 27)).drew.heap.size by simp); have HU2 := Lib.hid (show w3.ownsRow (wq.alloc (.cells #[.int .i64 0, .slice none 0 0] 27)).drew.heap.size 4 1 (.slice ua n uc) n (L.map Value.bool) from hu); have HQ3 := Lib.hid (show Cs w3 wq.heap.size #[.int .i64 0, .slice none 0 0] from ((Cs.new wq wq.heap.size #[.int .i64 0, .slice none 0 0] 27 rfl).step (below_drew _ _)).step b3); have q0 : w3.cell? ⟨wq.heap.size, 0, none⟩ = some (.int .i64 0) := (((Cs.new wq wq.heap.size #[.int .i64 0, .slice none 0 0] 27 rfl).step (below_drew _ _)).step b3).c 0 rfl; have q1 : w3.cell? ⟨wq.heap.size, 1, none⟩ = some (.slice none 0 0) := (((Cs.new wq wq.heap.size #[.int .i64 0, .slice none 0 0] 27 rfl).step (below_drew _ _)).step b3).c 1 rfl; have g0 := (((Cs.new wq wq.heap.size #[.int .i64 0, .slice none 0 0] 27 rfl).step (below_drew _ _)).step b3).f 0 (by simp); have g1 := (((Cs.new wq wq.heap.size #[.int .i64 0, .slice none 0 0] 27 rfl).step (below_drew _ _)).step b3).f 1 (by simp)) | (have HQA := Lib.hid (show wq.heap.size ≤ wq.drew.heap.size from Nat.le_refl _))); clear hu b3)
    all_goals go_wp2
    all_goals go_meet
    all_goals first | with_reducible exact AcG.after HW3.out HU.out HQA.out | with_reducible exact AcG.before HW3.out HU2.out HQB.out HQ3.out
  case rest =>
    obtain ⟨g, uc, ua, rfl, hg, hne, hcs, hrow, hb⟩ := hcut
    have HNE := Lib.hid hne
    clear hne
    have HC1 := Lib.hid (HC0.out.step hb)
    have HR1 := Lib.hid (HR0.out.step hb)
    have HB1 := Lib.hid (keep2 hb HB0.out)
    have HL1 := Lib.hid (HL0.out.step hb)
    have HN1 := Lib.hid hcs
    have HO1 := Lib.hid hrow
    have HZ := Lib.hid (show w.heap.size + 1 < wq.heap.size from HR0.out.2.2)
    have HNN := Lib.hid hg
    clear hcs hb hrow hg HC0 HR0 HL0 HB0
    have c0 : wc.cell? ⟨w.heap.size, 0, none⟩ = some (.int .i64 t) := HC1.out.c 0 rfl
    have c1 : wc.cell? ⟨w.heap.size, 1, none⟩ = some (.slice a n c) := HC1.out.c 1 rfl
    go_wp2_with fail
    refine (hi.out _ HL1.out).mono ?_
    rintro e w4 ⟨rfl, b4⟩
    have HC4 := Lib.hid (HC1.out.step b4)
    have HR4 := Lib.hid (HR1.out.step b4)
    have HB4 := Lib.hid (keep2 b4 HB1.out)
    have HL4 := Lib.hid (HL1.out.step b4)
    have HN4 := Lib.hid (HN1.out.step b4)
    have HO4 := Lib.hid (row_step HO1.out b4)
    clear b4 c0 c1 HC1 HR1 HB1 HL1 HN1 HO1
    have c0 : w4.cell? ⟨w.heap.size, 0, none⟩ = some (.int .i64 t) := HC4.out.c 0 rfl
    have c1 : w4.cell? ⟨w.heap.size, 1, none⟩ = some (.slice a n c) := HC4.out.c 1 rfl
    have d0 : decide (seq < 0) = false := by have := hs.out; simp; omega
    have d1 : decide (1000000 < seq) = true := by have := hs.out; simp; omega
    have d2 : decide (seq > 1000000) = true := by have := hs.out; simp; omega
    have r0 : w4.cell? ⟨w.heap.size + 1, 0, none⟩ = some (.int .i64 0) := HR4.out.c 0 rfl
    have r1 : w4.cell? ⟨w.heap.size + 1, 1, none⟩ = some (.slice none 0 0) := HR4.out.c 1 rfl
    have p0 := HR4.out.f 0 (by simp)
    have p1 := HR4.out.f 1 (by simp)
    have n0 : w4.cell? ⟨g, 0, none⟩ = some (.int .i64 t) := HN4.out.c 0 rfl
    have n1 : w4.cell? ⟨g, 1, none⟩ = some (.slice ua n uc) := HN4.out.c 1 rfl
    have hng : ¬ (g = w.heap.size + 1) := by have := HNN.out; have := HZ.out; omega
    have hgn : ¬ (w.heap.size + 1 = g) := fun e => hng e.symm
    go_wp2_with fail
    refine (fun (h : ∀ W : World, Cs W (w.heap.size + 1) #[.int .i64 t, .slice ua n uc] → BosAt W (.slice ua n uc) L → Below w.heap.size w W → bodyPost Try.prog Try.f51 _ Exit.ret _ W) => h _ (Cs.set (Cs.set HR4.out 0 (by simp) (.int .i64 t) rfl) 1 (by simp) (.slice ua n uc) (vs' := #[.int .i64 t, .slice ua n uc]) rfl) (bos_row HQ.out (ownsRow_setCell_below (ownsRow_setCell_below HO4.out (a := ⟨w.heap.size + 1, 0, none⟩) HZ.out _) (a := ⟨w.heap.size + 1, 1, none⟩) HZ.out _)) ((HB4.out.setCell (p := ⟨w.heap.size + 1, 0, none⟩) (Nat.le_succ _) _).setCell (p := ⟨w.heap.size + 1, 1, none⟩) (Nat.le_succ _) _)) ?_
    intro W hC hO hB
    have k0 : W.cell? ⟨w.heap.size + 1, 0, none⟩ = some (.int .i64 t) := hC.c 0 rfl
    have k1 : W.cell? ⟨w.heap.size + 1, 1, none⟩ = some (.slice ua n uc) := hC.c 1 rfl
    exact bodyPost_ret (v := .tuple #[.agg #[.int .i64 t, .slice ua n uc], .int .i64 1]) (by simp [results, Try.results51, go_sem, k0, k1]) rfl (AcP.mk HQ.out (row_cap HO4.out) hO hB)
end Go.Proofs.Ytkamkkjijjkfdaa
