import Derived.Test.YteodafhgfcbdpaaRb
import Derived.Test.YteodafhgfcbdpaaUe
import Derived.Test.YteodafhgfcbdpaaWf
namespace Go.Proofs.Yteodafhgfcbdpaa
open Go.RowKit

set_option maxRecDepth 100000 in
set_option maxHeartbeats 8000000 in
theorem rbegin_k (key ver : Int) (m : Mf) (w : World) (hk0 : inB 0 2147483646 key = false) : Calls Try.prog 14 #[.int .i64 key, .int .i64 ver, .agg #[.int .i64 m.v, .int .i64 m.c, .int .i64 m.s, .int .i64 m.r, .int .i64 m.t]] w (ChN zMf [] 1 w) := by
  have HK0 := Lib.hid hk0
  clear hk0
  have H0 := Lib.hid (Below.refl w.heap.size w)
  have H1 := Lib.hid (Cs.newB H0.out (w.heap.size) #[.int .i64 m.v, .int .i64 m.c, .int .i64 m.s, .int .i64 m.r, .int .i64 m.t] 24 (by simp))
  have H2 := Lib.hid (keep2 (al _ (.cells #[.int .i64 m.v, .int .i64 m.c, .int .i64 m.s, .int .i64 m.r, .int .i64 m.t] 24)) H0.out)
  clear H0
  have H3 := Lib.hid (Cs.newB H2.out (w.heap.size + 1) #[.int .i64 0, .int .i64 0, .int .i64 0, .int .i64 0, .int .i64 0, .slice none 0 0] 27 (by simp))
  have H4 := Lib.hid (H1.out.step (al _ (.cells #[.int .i64 0, .int .i64 0, .int .i64 0, .int .i64 0, .int .i64 0, .slice none 0 0] 27)))
  clear H1
  have H5 := Lib.hid (keep2 (al _ (.cells #[.int .i64 0, .int .i64 0, .int .i64 0, .int .i64 0, .int .i64 0, .slice none 0 0] 27)) H2.out)
  clear H2
  go_enter Try.func14, Try.ntmps14
  have xm0 := H4.out.c 0 rfl
  have xm1 := H4.out.c 1 rfl
  have xm2 := H4.out.c 2 rfl
  have xm3 := H4.out.c 3 rfl
  have xm4 := H4.out.c 4 rfl
  have zm := H4.out.2.2
  have xr0 := H3.out.c 0 rfl
  have xr1 := H3.out.c 1 rfl
  have xr2 := H3.out.c 2 rfl
  have xr3 := H3.out.c 3 rfl
  have xr4 := H3.out.c 4 rfl
  have xr5 := H3.out.c 5 rfl
  have zr := H3.out.2.2
  go_wp2_with fail
  refine (rdig_any key _).mono ?_
  rintro e wq6 ⟨rfl, rfl⟩
  rw [HK0.out]
  clear xm0 xm1 xm2 xm3 xm4 zm xr0 xr1 xr2 xr3 xr4 xr5 zr
  obtain ⟨U1, hU1⟩ : ∃ z9, ((w.alloc (.cells #[.int .i64 m.v, .int .i64 m.c, .int .i64 m.s, .int .i64 m.r, .int .i64 m.t] 24)).alloc (.cells #[.int .i64 0, .int .i64 0, .int .i64 0, .int .i64 0, .int .i64 0, .slice none 0 0] 27)) = z9 := ⟨_, rfl⟩
  rw [hU1] at H4 H3 H5 ⊢
  clear hU1
  have xm0 := H4.out.c 0 rfl
  have xm1 := H4.out.c 1 rfl
  have xm2 := H4.out.c 2 rfl
  have xm3 := H4.out.c 3 rfl
  have xm4 := H4.out.c 4 rfl
  have zm := H4.out.2.2
  have xr0 := H3.out.c 0 rfl
  have xr1 := H3.out.c 1 rfl
  have xr2 := H3.out.c 2 rfl
  have xr3 := H3.out.c 3 rfl
  have xr4 := H3.out.c 4 rfl
  have xr5 := H3.out.c 5 rfl
  have zr := H3.out.2.2
  have fr0 := H3.out.f 0 (by simp)
  have fr1 := H3.out.f 1 (by simp)
  have fr2 := H3.out.f 2 (by simp)
  have fr3 := H3.out.f 3 (by simp)
  have fr4 := H3.out.f 4 (by simp)
  have fr5 := H3.out.f 5 (by simp)
  have HLE := Lib.hid (show w.heap.size ≤ (w.heap.size + 1) from by omega)
  have q90 := Lib.hid (Cs.set H3.out 0 (by simp) (.int .i64 0) (vs' := #[.int .i64 0, .int .i64 0, .int .i64 0, .int .i64 0, .int .i64 0, .slice none 0 0]) rfl)
  have q91 := Lib.hid (Cs.set q90.out 1 (by simp) (.int .i64 0) (vs' := #[.int .i64 0, .int .i64 0, .int .i64 0, .int .i64 0, .int .i64 0, .slice none 0 0]) rfl)
  have q92 := Lib.hid (Cs.set q91.out 2 (by simp) (.int .i64 0) (vs' := #[.int .i64 0, .int .i64 0, .int .i64 0, .int .i64 0, .int .i64 0, .slice none 0 0]) rfl)
  have q93 := Lib.hid (Cs.set q92.out 3 (by simp) (.int .i64 0) (vs' := #[.int .i64 0, .int .i64 0, .int .i64 0, .int .i64 0, .int .i64 0, .slice none 0 0]) rfl)
  have q94 := Lib.hid (Cs.set q93.out 4 (by simp) (.int .i64 0) (vs' := #[.int .i64 0, .int .i64 0, .int .i64 0, .int .i64 0, .int .i64 0, .slice none 0 0]) rfl)
  have q95 := Lib.hid (Cs.set q94.out 5 (by simp) (.slice none 0 0) (vs' := #[.int .i64 0, .int .i64 0, .int .i64 0, .int .i64 0, .int .i64 0, .slice none 0 0]) rfl)
  clear q90 q91 q92 q93 q94
  go_wp2
  have hC := q95.out
  have hB := ((((((H5.out.setCell (p := ⟨(w.heap.size + 1), 0, none⟩) HLE.out (.int .i64 0)).setCell (p := ⟨(w.heap.size + 1), 1, none⟩) HLE.out (.int .i64 0)).setCell (p := ⟨(w.heap.size + 1), 2, none⟩) HLE.out (.int .i64 0)).setCell (p := ⟨(w.heap.size + 1), 3, none⟩) HLE.out (.int .i64 0)).setCell (p := ⟨(w.heap.size + 1), 4, none⟩) HLE.out (.int .i64 0)).setCell (p := ⟨(w.heap.size + 1), 5, none⟩) HLE.out (.slice none 0 0))
  obtain ⟨V9, hV9⟩ : ∃ z9, ((((((U1.setCell ⟨(w.heap.size + 1), 0, none⟩ (.int .i64 0)).setCell ⟨(w.heap.size + 1), 1, none⟩ (.int .i64 0)).setCell ⟨(w.heap.size + 1), 2, none⟩ (.int .i64 0)).setCell ⟨(w.heap.size + 1), 3, none⟩ (.int .i64 0)).setCell ⟨(w.heap.size + 1), 4, none⟩ (.int .i64 0)).setCell ⟨(w.heap.size + 1), 5, none⟩ (.slice none 0 0)) = z9 := ⟨_, rfl⟩
  rw [hV9] at hC hB ⊢
  clear hV9
  have k0 : V9.cell? ⟨(w.heap.size + 1), 0, none⟩ = some (.int .i64 0) := hC.c 0 rfl
  have k1 : V9.cell? ⟨(w.heap.size + 1), 1, none⟩ = some (.int .i64 0) := hC.c 1 rfl
  have k2 : V9.cell? ⟨(w.heap.size + 1), 2, none⟩ = some (.int .i64 0) := hC.c 2 rfl
  have k3 : V9.cell? ⟨(w.heap.size + 1), 3, none⟩ = some (.int .i64 0) := hC.c 3 rfl
  have k4 : V9.cell? ⟨(w.heap.size + 1), 4, none⟩ = some (.int .i64 0) := hC.c 4 rfl
  have k5 : V9.cell? ⟨(w.heap.size + 1), 5, none⟩ = some (.slice none 0 0) := hC.c 5 rfl
  exact bodyPost_ret (v := .tuple #[.agg #[.int .i64 0, .int .i64 0, .int .i64 0, .int .i64 0, .int .i64 0, .slice none 0 0], .int .i64 1]) (by simp [results, Try.results14, go_sem, k0, k1, k2, k3, k4, k5]) rfl (⟨_, rfl, ⟨rows_nil _, by simp, fun g off n c e => by cases e⟩, hB⟩)
set_option maxRecDepth 100000 in
set_option maxHeartbeats 8000000 in
theorem rbegin_v (key ver : Int) (m : Mf) (w : World) (hk0 : inB 0 2147483646 key = true) (hk1 : inB 0 1000000 ver = false) : Calls Try.prog 14 #[.int .i64 key, .int .i64 ver, .agg #[.int .i64 m.v, .int .i64 m.c, .int .i64 m.s, .int .i64 m.r, .int .i64 m.t]] w (ChN zMf [] 1 w) := by
  have HK0 := Lib.hid hk0
  have HK1 := Lib.hid hk1
  clear hk0 hk1
  have H0 := Lib.hid (Below.refl w.heap.size w)
  have H1 := Lib.hid (Cs.newB H0.out (w.heap.size) #[.int .i64 m.v, .int .i64 m.c, .int .i64 m.s, .int .i64 m.r, .int .i64 m.t] 24 (by simp))
  have H2 := Lib.hid (keep2 (al _ (.cells #[.int .i64 m.v, .int .i64 m.c, .int .i64 m.s, .int .i64 m.r, .int .i64 m.t] 24)) H0.out)
  clear H0
  have H3 := Lib.hid (Cs.newB H2.out (w.heap.size + 1) #[.int .i64 0, .int .i64 0, .int .i64 0, .int .i64 0, .int .i64 0, .slice none 0 0] 27 (by simp))
  have H4 := Lib.hid (H1.out.step (al _ (.cells #[.int .i64 0, .int .i64 0, .int .i64 0, .int .i64 0, .int .i64 0, .slice none 0 0] 27)))
  clear H1
  have H5 := Lib.hid (keep2 (al _ (.cells #[.int .i64 0, .int .i64 0, .int .i64 0, .int .i64 0, .int .i64 0, .slice none 0 0] 27)) H2.out)
  clear H2
  go_enter Try.func14, Try.ntmps14
  have xm0 := H4.out.c 0 rfl
  have xm1 := H4.out.c 1 rfl
  have xm2 := H4.out.c 2 rfl
  have xm3 := H4.out.c 3 rfl
  have xm4 := H4.out.c 4 rfl
  have zm := H4.out.2.2
  have xr0 := H3.out.c 0 rfl
  have xr1 := H3.out.c 1 rfl
  have xr2 := H3.out.c 2 rfl
  have xr3 := H3.out.c 3 rfl
  have xr4 := H3.out.c 4 rfl
  have xr5 := H3.out.c 5 rfl
  have zr := H3.out.2.2
  go_wp2_with fail
  refine (rdig_any key _).mono ?_
  rintro e wq6 ⟨rfl, rfl⟩
  rw [HK0.out]
  go_wp2_with fail
  refine (rbtw_any ver 0 1000000 _).mono ?_
  rintro e wq7 ⟨rfl, rfl⟩
  rw [HK1.out]
  clear xm0 xm1 xm2 xm3 xm4 zm xr0 xr1 xr2 xr3 xr4 xr5 zr
  obtain ⟨U1, hU1⟩ : ∃ z9, ((w.alloc (.cells #[.int .i64 m.v, .int .i64 m.c, .int .i64 m.s, .int .i64 m.r, .int .i64 m.t] 24)).alloc (.cells #[.int .i64 0, .int .i64 0, .int .i64 0, .int .i64 0, .int .i64 0, .slice none 0 0] 27)) = z9 := ⟨_, rfl⟩
  rw [hU1] at H4 H3 H5 ⊢
  clear hU1
  have xm0 := H4.out.c 0 rfl
  have xm1 := H4.out.c 1 rfl
  have xm2 := H4.out.c 2 rfl
  have xm3 := H4.out.c 3 rfl
  have xm4 := H4.out.c 4 rfl
  have zm := H4.out.2.2
  have xr0 := H3.out.c 0 rfl
  have xr1 := H3.out.c 1 rfl
  have xr2 := H3.out.c 2 rfl
  have xr3 := H3.out.c 3 rfl
  have xr4 := H3.out.c 4 rfl
  have xr5 := H3.out.c 5 rfl
  have zr := H3.out.2.2
  have fr0 := H3.out.f 0 (by simp)
  have fr1 := H3.out.f 1 (by simp)
  have fr2 := H3.out.f 2 (by simp)
  have fr3 := H3.out.f 3 (by simp)
  have fr4 := H3.out.f 4 (by simp)
  have fr5 := H3.out.f 5 (by simp)
  have HLE := Lib.hid (show w.heap.size ≤ (w.heap.size + 1) from by omega)
  have q90 := Lib.hid (Cs.set H3.out 0 (by simp) (.int .i64 0) (vs' := #[.int .i64 0, .int .i64 0, .int .i64 0, .int .i64 0, .int .i64 0, .slice none 0 0]) rfl)
  have q91 := Lib.hid (Cs.set q90.out 1 (by simp) (.int .i64 0) (vs' := #[.int .i64 0, .int .i64 0, .int .i64 0, .int .i64 0, .int .i64 0, .slice none 0 0]) rfl)
  have q92 := Lib.hid (Cs.set q91.out 2 (by simp) (.int .i64 0) (vs' := #[.int .i64 0, .int .i64 0, .int .i64 0, .int .i64 0, .int .i64 0, .slice none 0 0]) rfl)
  have q93 := Lib.hid (Cs.set q92.out 3 (by simp) (.int .i64 0) (vs' := #[.int .i64 0, .int .i64 0, .int .i64 0, .int .i64 0, .int .i64 0, .slice none 0 0]) rfl)
  have q94 := Lib.hid (Cs.set q93.out 4 (by simp) (.int .i64 0) (vs' := #[.int .i64 0, .int .i64 0, .int .i64 0, .int .i64 0, .int .i64 0, .slice none 0 0]) rfl)
  have q95 := Lib.hid (Cs.set q94.out 5 (by simp) (.slice none 0 0) (vs' := #[.int .i64 0, .int .i64 0, .int .i64 0, .int .i64 0, .int .i64 0, .slice none 0 0]) rfl)
  clear q90 q91 q92 q93 q94
  go_wp2
  have hC := q95.out
  have hB := ((((((H5.out.setCell (p := ⟨(w.heap.size + 1), 0, none⟩) HLE.out (.int .i64 0)).setCell (p := ⟨(w.heap.size + 1), 1, none⟩) HLE.out (.int .i64 0)).setCell (p := ⟨(w.heap.size + 1), 2, none⟩) HLE.out (.int .i64 0)).setCell (p := ⟨(w.heap.size + 1), 3, none⟩) HLE.out (.int .i64 0)).setCell (p := ⟨(w.heap.size + 1), 4, none⟩) HLE.out (.int .i64 0)).setCell (p := ⟨(w.heap.size + 1), 5, none⟩) HLE.out (.slice none 0 0))
  obtain ⟨V9, hV9⟩ : ∃ z9, ((((((U1.setCell ⟨(w.heap.size + 1), 0, none⟩ (.int .i64 0)).setCell ⟨(w.heap.size + 1), 1, none⟩ (.int .i64 0)).setCell ⟨(w.heap.size + 1), 2, none⟩ (.int .i64 0)).setCell ⟨(w.heap.size + 1), 3, none⟩ (.int .i64 0)).setCell ⟨(w.heap.size + 1), 4, none⟩ (.int .i64 0)).setCell ⟨(w.heap.size + 1), 5, none⟩ (.slice none 0 0)) = z9 := ⟨_, rfl⟩
  rw [hV9] at hC hB ⊢
  clear hV9
  have k0 : V9.cell? ⟨(w.heap.size + 1), 0, none⟩ = some (.int .i64 0) := hC.c 0 rfl
  have k1 : V9.cell? ⟨(w.heap.size + 1), 1, none⟩ = some (.int .i64 0) := hC.c 1 rfl
  have k2 : V9.cell? ⟨(w.heap.size + 1), 2, none⟩ = some (.int .i64 0) := hC.c 2 rfl
  have k3 : V9.cell? ⟨(w.heap.size + 1), 3, none⟩ = some (.int .i64 0) := hC.c 3 rfl
  have k4 : V9.cell? ⟨(w.heap.size + 1), 4, none⟩ = some (.int .i64 0) := hC.c 4 rfl
  have k5 : V9.cell? ⟨(w.heap.size + 1), 5, none⟩ = some (.slice none 0 0) := hC.c 5 rfl
  exact bodyPost_ret (v := .tuple #[.agg #[.int .i64 0, .int .i64 0, .int .i64 0, .int .i64 0, .int .i64 0, .slice none 0 0], .int .i64 1]) (by simp [results, Try.results14, go_sem, k0, k1, k2, k3, k4, k5]) rfl (⟨_, rfl, ⟨rows_nil _, by simp, fun g off n c e => by cases e⟩, hB⟩)
set_option maxRecDepth 100000 in
set_option maxHeartbeats 8000000 in
theorem rbegin_m (key ver : Int) (m : Mf) (w : World) (hk0 : inB 0 2147483646 key = true) (hk1 : inB 0 1000000 ver = true) (hk2 : mfB m = false) : Calls Try.prog 14 #[.int .i64 key, .int .i64 ver, .agg #[.int .i64 m.v, .int .i64 m.c, .int .i64 m.s, .int .i64 m.r, .int .i64 m.t]] w (ChN zMf [] 1 w) := by
  have HK0 := Lib.hid hk0
  have HK1 := Lib.hid hk1
  have HK2 := Lib.hid hk2
  clear hk0 hk1 hk2
  have H0 := Lib.hid (Below.refl w.heap.size w)
  have H1 := Lib.hid (Cs.newB H0.out (w.heap.size) #[.int .i64 m.v, .int .i64 m.c, .int .i64 m.s, .int .i64 m.r, .int .i64 m.t] 24 (by simp))
  have H2 := Lib.hid (keep2 (al _ (.cells #[.int .i64 m.v, .int .i64 m.c, .int .i64 m.s, .int .i64 m.r, .int .i64 m.t] 24)) H0.out)
  clear H0
  have H3 := Lib.hid (Cs.newB H2.out (w.heap.size + 1) #[.int .i64 0, .int .i64 0, .int .i64 0, .int .i64 0, .int .i64 0, .slice none 0 0] 27 (by simp))
  have H4 := Lib.hid (H1.out.step (al _ (.cells #[.int .i64 0, .int .i64 0, .int .i64 0, .int .i64 0, .int .i64 0, .slice none 0 0] 27)))
  clear H1
  have H5 := Lib.hid (keep2 (al _ (.cells #[.int .i64 0, .int .i64 0, .int .i64 0, .int .i64 0, .int .i64 0, .slice none 0 0] 27)) H2.out)
  clear H2
  go_enter Try.func14, Try.ntmps14
  have xm0 := H4.out.c 0 rfl
  have xm1 := H4.out.c 1 rfl
  have xm2 := H4.out.c 2 rfl
  have xm3 := H4.out.c 3 rfl
  have xm4 := H4.out.c 4 rfl
  have zm := H4.out.2.2
  have xr0 := H3.out.c 0 rfl
  have xr1 := H3.out.c 1 rfl
  have xr2 := H3.out.c 2 rfl
  have xr3 := H3.out.c 3 rfl
  have xr4 := H3.out.c 4 rfl
  have xr5 := H3.out.c 5 rfl
  have zr := H3.out.2.2
  go_wp2_with fail
  refine (rdig_any key _).mono ?_
  rintro e wq6 ⟨rfl, rfl⟩
  rw [HK0.out]
  go_wp2_with fail
  refine (rbtw_any ver 0 1000000 _).mono ?_
  rintro e wq7 ⟨rfl, rfl⟩
  rw [HK1.out]
  go_wp2_with fail
  refine (rmanif_any m _).mono ?_
  rintro e u1 ⟨rfl, b1⟩
  clear xm0 xm1 xm2 xm3 xm4 zm xr0 xr1 xr2 xr3 xr4 xr5 zr
  have H8 := Lib.hid (H4.out.step b1)
  clear H4
  have H9 := Lib.hid (H3.out.step b1)
  clear H3
  have H10 := Lib.hid (keep2 b1 H5.out)
  clear H5
  clear b1
  rw [HK2.out]
  have xm0 := H8.out.c 0 rfl
  have xm1 := H8.out.c 1 rfl
  have xm2 := H8.out.c 2 rfl
  have xm3 := H8.out.c 3 rfl
  have xm4 := H8.out.c 4 rfl
  have zm := H8.out.2.2
  have xr0 := H9.out.c 0 rfl
  have xr1 := H9.out.c 1 rfl
  have xr2 := H9.out.c 2 rfl
  have xr3 := H9.out.c 3 rfl
  have xr4 := H9.out.c 4 rfl
  have xr5 := H9.out.c 5 rfl
  have zr := H9.out.2.2
  have fr0 := H9.out.f 0 (by simp)
  have fr1 := H9.out.f 1 (by simp)
  have fr2 := H9.out.f 2 (by simp)
  have fr3 := H9.out.f 3 (by simp)
  have fr4 := H9.out.f 4 (by simp)
  have fr5 := H9.out.f 5 (by simp)
  have HLE := Lib.hid (show w.heap.size ≤ (w.heap.size + 1) from by omega)
  have q90 := Lib.hid (Cs.set H9.out 0 (by simp) (.int .i64 0) (vs' := #[.int .i64 0, .int .i64 0, .int .i64 0, .int .i64 0, .int .i64 0, .slice none 0 0]) rfl)
  have q91 := Lib.hid (Cs.set q90.out 1 (by simp) (.int .i64 0) (vs' := #[.int .i64 0, .int .i64 0, .int .i64 0, .int .i64 0, .int .i64 0, .slice none 0 0]) rfl)
  have q92 := Lib.hid (Cs.set q91.out 2 (by simp) (.int .i64 0) (vs' := #[.int .i64 0, .int .i64 0, .int .i64 0, .int .i64 0, .int .i64 0, .slice none 0 0]) rfl)
  have q93 := Lib.hid (Cs.set q92.out 3 (by simp) (.int .i64 0) (vs' := #[.int .i64 0, .int .i64 0, .int .i64 0, .int .i64 0, .int .i64 0, .slice none 0 0]) rfl)
  have q94 := Lib.hid (Cs.set q93.out 4 (by simp) (.int .i64 0) (vs' := #[.int .i64 0, .int .i64 0, .int .i64 0, .int .i64 0, .int .i64 0, .slice none 0 0]) rfl)
  have q95 := Lib.hid (Cs.set q94.out 5 (by simp) (.slice none 0 0) (vs' := #[.int .i64 0, .int .i64 0, .int .i64 0, .int .i64 0, .int .i64 0, .slice none 0 0]) rfl)
  clear q90 q91 q92 q93 q94
  go_wp2
  have hC := q95.out
  have hB := ((((((H10.out.setCell (p := ⟨(w.heap.size + 1), 0, none⟩) HLE.out (.int .i64 0)).setCell (p := ⟨(w.heap.size + 1), 1, none⟩) HLE.out (.int .i64 0)).setCell (p := ⟨(w.heap.size + 1), 2, none⟩) HLE.out (.int .i64 0)).setCell (p := ⟨(w.heap.size + 1), 3, none⟩) HLE.out (.int .i64 0)).setCell (p := ⟨(w.heap.size + 1), 4, none⟩) HLE.out (.int .i64 0)).setCell (p := ⟨(w.heap.size + 1), 5, none⟩) HLE.out (.slice none 0 0))
  obtain ⟨V9, hV9⟩ : ∃ z9, ((((((u1.setCell ⟨(w.heap.size + 1), 0, none⟩ (.int .i64 0)).setCell ⟨(w.heap.size + 1), 1, none⟩ (.int .i64 0)).setCell ⟨(w.heap.size + 1), 2, none⟩ (.int .i64 0)).setCell ⟨(w.heap.size + 1), 3, none⟩ (.int .i64 0)).setCell ⟨(w.heap.size + 1), 4, none⟩ (.int .i64 0)).setCell ⟨(w.heap.size + 1), 5, none⟩ (.slice none 0 0)) = z9 := ⟨_, rfl⟩
  rw [hV9] at hC hB ⊢
  clear hV9
  have k0 : V9.cell? ⟨(w.heap.size + 1), 0, none⟩ = some (.int .i64 0) := hC.c 0 rfl
  have k1 : V9.cell? ⟨(w.heap.size + 1), 1, none⟩ = some (.int .i64 0) := hC.c 1 rfl
  have k2 : V9.cell? ⟨(w.heap.size + 1), 2, none⟩ = some (.int .i64 0) := hC.c 2 rfl
  have k3 : V9.cell? ⟨(w.heap.size + 1), 3, none⟩ = some (.int .i64 0) := hC.c 3 rfl
  have k4 : V9.cell? ⟨(w.heap.size + 1), 4, none⟩ = some (.int .i64 0) := hC.c 4 rfl
  have k5 : V9.cell? ⟨(w.heap.size + 1), 5, none⟩ = some (.slice none 0 0) := hC.c 5 rfl
  exact bodyPost_ret (v := .tuple #[.agg #[.int .i64 0, .int .i64 0, .int .i64 0, .int .i64 0, .int .i64 0, .slice none 0 0], .int .i64 1]) (by simp [results, Try.results14, go_sem, k0, k1, k2, k3, k4, k5]) rfl (⟨_, rfl, ⟨rows_nil _, by simp, fun g off n c e => by cases e⟩, hB⟩)
set_option maxRecDepth 100000 in
set_option maxHeartbeats 8000000 in
theorem rbegin_t (key ver : Int) (m : Mf) (w : World) (hk0 : inB 0 2147483646 key = true) (hk1 : inB 0 1000000 ver = true) (hk2 : mfB m = true) (tg : Int) (htg : tgM key m = tg) (hn : ¬ m.t = tg) : Calls Try.prog 14 #[.int .i64 key, .int .i64 ver, .agg #[.int .i64 m.v, .int .i64 m.c, .int .i64 m.s, .int .i64 m.r, .int .i64 m.t]] w (ChN zMf [] 15 w) := by
  have HK0 := Lib.hid hk0
  have HK1 := Lib.hid hk1
  have HK2 := Lib.hid hk2
  have HTG := Lib.hid (show Dg (tgd key m.nums) = tg from htg)
  have HNL := Lib.hid (show m.nums.length ≤ 5000 by simp [Mf.nums])
  have HTN := Lib.hid (show (m.t != tg) = true by simpa using hn)
  clear htg hn
  clear hk0 hk1 hk2
  have H0 := Lib.hid (Below.refl w.heap.size w)
  have H1 := Lib.hid (Cs.newB H0.out (w.heap.size) #[.int .i64 m.v, .int .i64 m.c, .int .i64 m.s, .int .i64 m.r, .int .i64 m.t] 24 (by simp))
  have H2 := Lib.hid (keep2 (al _ (.cells #[.int .i64 m.v, .int .i64 m.c, .int .i64 m.s, .int .i64 m.r, .int .i64 m.t] 24)) H0.out)
  clear H0
  have H3 := Lib.hid (Cs.newB H2.out (w.heap.size + 1) #[.int .i64 0, .int .i64 0, .int .i64 0, .int .i64 0, .int .i64 0, .slice none 0 0] 27 (by simp))
  have H4 := Lib.hid (H1.out.step (al _ (.cells #[.int .i64 0, .int .i64 0, .int .i64 0, .int .i64 0, .int .i64 0, .slice none 0 0] 27)))
  clear H1
  have H5 := Lib.hid (keep2 (al _ (.cells #[.int .i64 0, .int .i64 0, .int .i64 0, .int .i64 0, .int .i64 0, .slice none 0 0] 27)) H2.out)
  clear H2
  go_enter Try.func14, Try.ntmps14
  have xm0 := H4.out.c 0 rfl
  have xm1 := H4.out.c 1 rfl
  have xm2 := H4.out.c 2 rfl
  have xm3 := H4.out.c 3 rfl
  have xm4 := H4.out.c 4 rfl
  have zm := H4.out.2.2
  have xr0 := H3.out.c 0 rfl
  have xr1 := H3.out.c 1 rfl
  have xr2 := H3.out.c 2 rfl
  have xr3 := H3.out.c 3 rfl
  have xr4 := H3.out.c 4 rfl
  have xr5 := H3.out.c 5 rfl
  have zr := H3.out.2.2
  go_wp2_with fail
  refine (rdig_any key _).mono ?_
  rintro e wq6 ⟨rfl, rfl⟩
  rw [HK0.out]
  go_wp2_with fail
  refine (rbtw_any ver 0 1000000 _).mono ?_
  rintro e wq7 ⟨rfl, rfl⟩
  rw [HK1.out]
  go_wp2_with fail
  refine (rmanif_any m _).mono ?_
  rintro e u1 ⟨rfl, b1⟩
  clear xm0 xm1 xm2 xm3 xm4 zm xr0 xr1 xr2 xr3 xr4 xr5 zr
  have H8 := Lib.hid (H4.out.step b1)
  clear H4
  have H9 := Lib.hid (H3.out.step b1)
  clear H3
  have H10 := Lib.hid (keep2 b1 H5.out)
  clear H5
  clear b1
  rw [HK2.out]
  have xm0 := H8.out.c 0 rfl
  have xm1 := H8.out.c 1 rfl
  have xm2 := H8.out.c 2 rfl
  have xm3 := H8.out.c 3 rfl
  have xm4 := H8.out.c 4 rfl
  have zm := H8.out.2.2
  go_upto_region 3 with fail
  clear xm0 xm1 xm2 xm3 xm4 zm
  obtain ⟨lit, hlit⟩ : ∃ lit : (Nat → Value) → Act, lit = fun vs => { tmps := List.toArray (Value.int IntKind.i64 key :: Value.int IntKind.i64 ver :: Value.agg #[Value.int IntKind.i64 m.v, Value.int IntKind.i64 m.c, Value.int IntKind.i64 m.s, Value.int IntKind.i64 m.r, Value.int IntKind.i64 m.t] :: undef :: undef :: Value.pointer (some { block := w.heap.size, off := 0 }) :: Value.pointer (some { block := w.heap.size + 1, off := 0 }) :: Value.int IntKind.i64 0 :: Value.int IntKind.i64 key :: Value.bool true :: Value.bool false :: Value.bool false :: Value.int IntKind.i64 ver :: Value.bool true :: Value.bool false :: Value.bool false :: Value.bool false :: Value.agg #[Value.int IntKind.i64 m.v, Value.int IntKind.i64 m.c, Value.int IntKind.i64 m.s, Value.int IntKind.i64 m.r, Value.int IntKind.i64 m.t] :: Value.bool true :: Value.bool false :: Value.bool false :: undef :: vs 0 :: vs 1 :: vs 2 :: vs 3 :: vs 4 :: vs 5 :: vs 6 :: undef :: undef :: undef :: undef :: undef :: undef :: undef :: undef :: undef :: undef :: undef :: []), defers := [] } := ⟨_, rfl⟩
  have HLIT := Lib.hid hlit
  clear hlit
  obtain ⟨val, hval⟩ : ∃ val : List Value, val = [.pointer (some ⟨(w.heap.size), 4, none⟩), .int .i64 m.t, .int .i64 key, .agg #[.int .i64 m.v, .int .i64 m.c, .int .i64 m.s, .int .i64 m.r, .int .i64 m.t], undef, .int .i64 tg, .bool true] := ⟨_, rfl⟩
  have E0 := Lib.hid (show val.getD 0 undef = .pointer (some ⟨(w.heap.size), 4, none⟩) by rw [hval]; rfl)
  have E1 := Lib.hid (show val.getD 1 undef = .int .i64 m.t by rw [hval]; rfl)
  have E2 := Lib.hid (show val.getD 2 undef = .int .i64 key by rw [hval]; rfl)
  have E3 := Lib.hid (show val.getD 3 undef = .agg #[.int .i64 m.v, .int .i64 m.c, .int .i64 m.s, .int .i64 m.r, .int .i64 m.t] by rw [hval]; rfl)
  have E5 := Lib.hid (show val.getD 5 undef = .int .i64 tg by rw [hval]; rfl)
  have E6 := Lib.hid (show val.getD 6 undef = .bool true by rw [hval]; rfl)
  clear hval
  obtain ⟨G, hG0⟩ : ∃ G : Nat → Value → World → Prop, G = (fun i v w => (i = 4 → IntsAt w v m.nums) ∧ (i ≠ 4 → v = val.getD i undef)) := ⟨_, rfl⟩
  have HG := Lib.hid hG0
  clear hG0
  refine region_inv (RS lit u1 G) (by kernel_rfl) (by decide +kernel) ?_ ?_ ?_
  · exact ⟨fun i => ([undef, undef, undef, undef, undef, undef, undef] : List Value).getD i undef, (by rw [HLIT.out]; rfl), below_drew _ _, fun i h => by cases h⟩
  · refine ⟨?_, ?_, ?_, ?_, ?_, ?_, ?_, trivial⟩
    · intro bf ac wv hfb haf hJ K' hK
      obtain ⟨vs, rfl, hM, j4⟩ := hJ
      replace hK := Lib.hid hK
      replace hM := Lib.hid hM
      rw [HG.out] at j4
      replace j4 := Lib.hid j4
      clear haf hfb
      rw [HLIT.out]
      go_simp
      exact hK.out _ _ (RS.next (wv := wv) (vs := vs) 0 (x := .pointer (some ⟨(w.heap.size), 4, none⟩)) (by rw [HLIT.out]; rfl) (by rw [HG.out]; exact j4.out) hM.out (by rw [HG.out]; exact fun _ _ h => h) (by rw [HG.out]; exact ⟨fun h => absurd h (by decide), fun _ => E0.out.symm⟩))
    · intro bf ac wv hfb haf hJ K' hK
      obtain ⟨vs, rfl, hM, j4⟩ := hJ
      replace hK := Lib.hid hK
      replace hM := Lib.hid hM
      rw [HG.out] at j4
      simp [Region.binds] at haf
      have e0 := ((j4 0 (by simp [haf])).2 (by decide)).trans E0.out
      replace j4 := Lib.hid j4
      clear haf hfb
      have x4 := (H8.out.step hM.out).c 4 rfl
      have xz := (H8.out.step hM.out).2.2
      rw [HLIT.out]
      go_simp
      exact hK.out _ _ (RS.next (wv := wv) (vs := vs) 1 (x := .int .i64 m.t) (by rw [HLIT.out]; simp only [upv, e0, Nat.reduceBEq, cond_true, cond_false]) (by rw [HG.out]; exact j4.out) hM.out (by rw [HG.out]; exact fun _ _ h => h) (by rw [HG.out]; exact ⟨fun h => absurd h (by decide), fun _ => E1.out.symm⟩))
    · intro bf ac wv hfb haf hJ K' hK
      obtain ⟨vs, rfl, hM, j4⟩ := hJ
      replace hK := Lib.hid hK
      replace hM := Lib.hid hM
      rw [HG.out] at j4
      replace j4 := Lib.hid j4
      clear haf hfb
      rw [HLIT.out]
      go_simp
      exact hK.out _ _ (RS.next (wv := wv) (vs := vs) 2 (x := .int .i64 key) (by rw [HLIT.out]; rfl) (by rw [HG.out]; exact j4.out) hM.out (by rw [HG.out]; exact fun _ _ h => h) (by rw [HG.out]; exact ⟨fun h => absurd h (by decide), fun _ => E2.out.symm⟩))
    · intro bf ac wv hfb haf hJ K' hK
      obtain ⟨vs, rfl, hM, j4⟩ := hJ
      replace hK := Lib.hid hK
      replace hM := Lib.hid hM
      rw [HG.out] at j4
      replace j4 := Lib.hid j4
      clear haf hfb
      have x0 := (H8.out.step hM.out).c 0 rfl
      have x1 := (H8.out.step hM.out).c 1 rfl
      have x2 := (H8.out.step hM.out).c 2 rfl
      have x3 := (H8.out.step hM.out).c 3 rfl
      have x4 := (H8.out.step hM.out).c 4 rfl
      have xz := (H8.out.step hM.out).2.2
      rw [HLIT.out]
      go_simp
      exact hK.out _ _ (RS.next (wv := wv) (vs := vs) 3 (x := .agg #[.int .i64 m.v, .int .i64 m.c, .int .i64 m.s, .int .i64 m.r, .int .i64 m.t]) (by rw [HLIT.out]; rfl) (by rw [HG.out]; exact j4.out) hM.out (by rw [HG.out]; exact fun _ _ h => h) (by rw [HG.out]; exact ⟨fun h => absurd h (by decide), fun _ => E3.out.symm⟩))
    · intro bf ac wv hfb haf hJ K' hK
      obtain ⟨vs, rfl, hM, j4⟩ := hJ
      replace hK := Lib.hid hK
      replace hM := Lib.hid hM
      rw [HG.out] at j4
      simp [Region.binds] at haf
      have e3 := ((j4 3 (by simp [haf])).2 (by decide)).trans E3.out
      replace j4 := Lib.hid j4
      clear haf hfb
      rw [HLIT.out]
      go_simp
      go_at_call 46
      refine (rnums_any m _).mono ?_
      rintro e w4 ⟨vu, rfl, hu4, b4⟩
      exact hK.out _ _ (RS.next (wv := wv) (vs := vs) 4 (x := vu) (by rw [HLIT.out]; simp only [upv, e3, Nat.reduceBEq, cond_true, cond_false]) (by rw [HG.out]; exact j4.out) (keep2 b4 hM.out) (by rw [HG.out]; exact fun k v h => ⟨fun q => (h.1 q).step b4, h.2⟩) (by rw [HG.out]; exact ⟨fun _ => hu4, fun h4 => absurd rfl h4⟩))
    · intro bf ac wv hfb haf hJ K' hK
      obtain ⟨vs, rfl, hM, j4⟩ := hJ
      replace hK := Lib.hid hK
      replace hM := Lib.hid hM
      rw [HG.out] at j4
      simp [Region.binds] at haf
      have e2 := ((j4 2 (by simp [haf])).2 (by decide)).trans E2.out
      have e4 := (j4 4 (by simp [haf])).1 rfl
      replace j4 := Lib.hid j4
      clear haf hfb
      replace e4 := Lib.hid e4
      rw [HLIT.out]
      go_simp
      go_at_call 45
      refine (rtagA_any key _ m.nums _ e4.out HNL.out).mono ?_
      rintro e w4 ⟨rfl, b4⟩
      rw [HTG.out]
      exact hK.out _ _ (RS.next (wv := wv) (vs := vs) 5 (x := .int .i64 tg) (by rw [HLIT.out]; simp only [upv, e2, Nat.reduceBEq, cond_true, cond_false]) (by rw [HG.out]; exact j4.out) (keep2 b4 hM.out) (by rw [HG.out]; exact fun k v h => ⟨fun q => (h.1 q).step b4, h.2⟩) (by rw [HG.out]; exact ⟨fun h => absurd h (by decide), fun _ => E5.out.symm⟩))
    · intro bf ac wv hfb haf hJ K' hK
      obtain ⟨vs, rfl, hM, j4⟩ := hJ
      replace hK := Lib.hid hK
      replace hM := Lib.hid hM
      rw [HG.out] at j4
      simp [Region.binds] at haf
      have e1 := ((j4 1 (by simp [haf])).2 (by decide)).trans E1.out
      have e5 := ((j4 5 (by simp [haf])).2 (by decide)).trans E5.out
      replace j4 := Lib.hid j4
      clear haf hfb
      have tq := HTN.out
      rw [HLIT.out]
      go_simp
      exact hK.out _ _ (RS.next (wv := wv) (vs := vs) 6 (x := .bool true) (by rw [HLIT.out]; simp only [upv, e1, e5, Nat.reduceBEq, cond_true, cond_false]) (by rw [HG.out]; exact j4.out) hM.out (by rw [HG.out]; exact fun _ _ h => h) (by rw [HG.out]; exact ⟨fun h => absurd h (by decide), fun _ => E6.out.symm⟩))
  · intro bf ac wv hall hJ
    obtain ⟨vs, rfl, hM, j4⟩ := hJ
    rw [HG.out] at j4
    have e5 := ((j4 6 (hall 6 (by decide))).2 (by decide)).trans E6.out
    have HM9 := Lib.hid hM
    clear hM j4 hall
    rw [HLIT.out]
    dsimp only
    rw [e5]
    clear e5 HLIT HG
    generalize vs = us8
    have H11 := Lib.hid (H8.out.step HM9.out)
    clear H8
    have H12 := Lib.hid (H9.out.step HM9.out)
    clear H9
    have H13 := Lib.hid (keep2 HM9.out H10.out)
    clear H10 HM9
    obtain ⟨U2, hU2⟩ : ∃ z9, wv = z9 := ⟨_, rfl⟩
    rw [hU2] at H11 H12 H13 ⊢
    clear hU2
    have xm0 := H11.out.c 0 rfl
    have xm1 := H11.out.c 1 rfl
    have xm2 := H11.out.c 2 rfl
    have xm3 := H11.out.c 3 rfl
    have xm4 := H11.out.c 4 rfl
    have zm := H11.out.2.2
    have xr0 := H12.out.c 0 rfl
    have xr1 := H12.out.c 1 rfl
    have xr2 := H12.out.c 2 rfl
    have xr3 := H12.out.c 3 rfl
    have xr4 := H12.out.c 4 rfl
    have xr5 := H12.out.c 5 rfl
    have zr := H12.out.2.2
    have fr0 := H12.out.f 0 (by simp)
    have fr1 := H12.out.f 1 (by simp)
    have fr2 := H12.out.f 2 (by simp)
    have fr3 := H12.out.f 3 (by simp)
    have fr4 := H12.out.f 4 (by simp)
    have fr5 := H12.out.f 5 (by simp)
    have HLE := Lib.hid (show w.heap.size ≤ (w.heap.size + 1) from by omega)
    have q90 := Lib.hid (Cs.set H12.out 0 (by simp) (.int .i64 0) (vs' := #[.int .i64 0, .int .i64 0, .int .i64 0, .int .i64 0, .int .i64 0, .slice none 0 0]) rfl)
    have q91 := Lib.hid (Cs.set q90.out 1 (by simp) (.int .i64 0) (vs' := #[.int .i64 0, .int .i64 0, .int .i64 0, .int .i64 0, .int .i64 0, .slice none 0 0]) rfl)
    have q92 := Lib.hid (Cs.set q91.out 2 (by simp) (.int .i64 0) (vs' := #[.int .i64 0, .int .i64 0, .int .i64 0, .int .i64 0, .int .i64 0, .slice none 0 0]) rfl)
    have q93 := Lib.hid (Cs.set q92.out 3 (by simp) (.int .i64 0) (vs' := #[.int .i64 0, .int .i64 0, .int .i64 0, .int .i64 0, .int .i64 0, .slice none 0 0]) rfl)
    have q94 := Lib.hid (Cs.set q93.out 4 (by simp) (.int .i64 0) (vs' := #[.int .i64 0, .int .i64 0, .int .i64 0, .int .i64 0, .int .i64 0, .slice none 0 0]) rfl)
    have q95 := Lib.hid (Cs.set q94.out 5 (by simp) (.slice none 0 0) (vs' := #[.int .i64 0, .int .i64 0, .int .i64 0, .int .i64 0, .int .i64 0, .slice none 0 0]) rfl)
    clear q90 q91 q92 q93 q94
    go_wp2
    have hC := q95.out
    have hB := ((((((H13.out.setCell (p := ⟨(w.heap.size + 1), 0, none⟩) HLE.out (.int .i64 0)).setCell (p := ⟨(w.heap.size + 1), 1, none⟩) HLE.out (.int .i64 0)).setCell (p := ⟨(w.heap.size + 1), 2, none⟩) HLE.out (.int .i64 0)).setCell (p := ⟨(w.heap.size + 1), 3, none⟩) HLE.out (.int .i64 0)).setCell (p := ⟨(w.heap.size + 1), 4, none⟩) HLE.out (.int .i64 0)).setCell (p := ⟨(w.heap.size + 1), 5, none⟩) HLE.out (.slice none 0 0))
    obtain ⟨V9, hV9⟩ : ∃ z9, ((((((U2.setCell ⟨(w.heap.size + 1), 0, none⟩ (.int .i64 0)).setCell ⟨(w.heap.size + 1), 1, none⟩ (.int .i64 0)).setCell ⟨(w.heap.size + 1), 2, none⟩ (.int .i64 0)).setCell ⟨(w.heap.size + 1), 3, none⟩ (.int .i64 0)).setCell ⟨(w.heap.size + 1), 4, none⟩ (.int .i64 0)).setCell ⟨(w.heap.size + 1), 5, none⟩ (.slice none 0 0)) = z9 := ⟨_, rfl⟩
    rw [hV9] at hC hB ⊢
    clear hV9
    have k0 : V9.cell? ⟨(w.heap.size + 1), 0, none⟩ = some (.int .i64 0) := hC.c 0 rfl
    have k1 : V9.cell? ⟨(w.heap.size + 1), 1, none⟩ = some (.int .i64 0) := hC.c 1 rfl
    have k2 : V9.cell? ⟨(w.heap.size + 1), 2, none⟩ = some (.int .i64 0) := hC.c 2 rfl
    have k3 : V9.cell? ⟨(w.heap.size + 1), 3, none⟩ = some (.int .i64 0) := hC.c 3 rfl
    have k4 : V9.cell? ⟨(w.heap.size + 1), 4, none⟩ = some (.int .i64 0) := hC.c 4 rfl
    have k5 : V9.cell? ⟨(w.heap.size + 1), 5, none⟩ = some (.slice none 0 0) := hC.c 5 rfl
    exact bodyPost_ret (v := .tuple #[.agg #[.int .i64 0, .int .i64 0, .int .i64 0, .int .i64 0, .int .i64 0, .slice none 0 0], .int .i64 15]) (by simp [results, Try.results14, go_sem, k0, k1, k2, k3, k4, k5]) rfl (⟨_, rfl, ⟨rows_nil _, by simp, fun g off n c e => by cases e⟩, hB⟩)
set_option maxRecDepth 100000 in
set_option maxHeartbeats 8000000 in
theorem rbegin_s (key ver : Int) (m : Mf) (w : World) (hk0 : inB 0 2147483646 key = true) (hk1 : inB 0 1000000 ver = true) (hk2 : mfB m = true) (tg : Int) (htg : tgM key m = tg) (hn : m.t = tg) (hv : m.v ≤ ver) : Calls Try.prog 14 #[.int .i64 key, .int .i64 ver, .agg #[.int .i64 m.v, .int .i64 m.c, .int .i64 m.s, .int .i64 m.r, .int .i64 m.t]] w (ChN zMf [] 31 w) := by
  have HK0 := Lib.hid hk0
  have HK1 := Lib.hid hk1
  have HK2 := Lib.hid hk2
  have HTG := Lib.hid (show Dg (tgd key m.nums) = tg from htg)
  have HNL := Lib.hid (show m.nums.length ≤ 5000 by simp [Mf.nums])
  have HTN := Lib.hid (show (m.t != tg) = false by simpa using hn)
  have HVV := Lib.hid hv
  clear htg hn hv
  clear hk0 hk1 hk2
  have H0 := Lib.hid (Below.refl w.heap.size w)
  have H1 := Lib.hid (Cs.newB H0.out (w.heap.size) #[.int .i64 m.v, .int .i64 m.c, .int .i64 m.s, .int .i64 m.r, .int .i64 m.t] 24 (by simp))
  have H2 := Lib.hid (keep2 (al _ (.cells #[.int .i64 m.v, .int .i64 m.c, .int .i64 m.s, .int .i64 m.r, .int .i64 m.t] 24)) H0.out)
  clear H0
  have H3 := Lib.hid (Cs.newB H2.out (w.heap.size + 1) #[.int .i64 0, .int .i64 0, .int .i64 0, .int .i64 0, .int .i64 0, .slice none 0 0] 27 (by simp))
  have H4 := Lib.hid (H1.out.step (al _ (.cells #[.int .i64 0, .int .i64 0, .int .i64 0, .int .i64 0, .int .i64 0, .slice none 0 0] 27)))
  clear H1
  have H5 := Lib.hid (keep2 (al _ (.cells #[.int .i64 0, .int .i64 0, .int .i64 0, .int .i64 0, .int .i64 0, .slice none 0 0] 27)) H2.out)
  clear H2
  go_enter Try.func14, Try.ntmps14
  have xm0 := H4.out.c 0 rfl
  have xm1 := H4.out.c 1 rfl
  have xm2 := H4.out.c 2 rfl
  have xm3 := H4.out.c 3 rfl
  have xm4 := H4.out.c 4 rfl
  have zm := H4.out.2.2
  have xr0 := H3.out.c 0 rfl
  have xr1 := H3.out.c 1 rfl
  have xr2 := H3.out.c 2 rfl
  have xr3 := H3.out.c 3 rfl
  have xr4 := H3.out.c 4 rfl
  have xr5 := H3.out.c 5 rfl
  have zr := H3.out.2.2
  go_wp2_with fail
  refine (rdig_any key _).mono ?_
  rintro e wq6 ⟨rfl, rfl⟩
  rw [HK0.out]
  go_wp2_with fail
  refine (rbtw_any ver 0 1000000 _).mono ?_
  rintro e wq7 ⟨rfl, rfl⟩
  rw [HK1.out]
  go_wp2_with fail
  refine (rmanif_any m _).mono ?_
  rintro e u1 ⟨rfl, b1⟩
  clear xm0 xm1 xm2 xm3 xm4 zm xr0 xr1 xr2 xr3 xr4 xr5 zr
  have H8 := Lib.hid (H4.out.step b1)
  clear H4
  have H9 := Lib.hid (H3.out.step b1)
  clear H3
  have H10 := Lib.hid (keep2 b1 H5.out)
  clear H5
  clear b1
  rw [HK2.out]
  have xm0 := H8.out.c 0 rfl
  have xm1 := H8.out.c 1 rfl
  have xm2 := H8.out.c 2 rfl
  have xm3 := H8.out.c 3 rfl
  have xm4 := H8.out.c 4 rfl
  have zm := H8.out.2.2
  go_upto_region 3 with fail
  clear xm0 xm1 xm2 xm3 xm4 zm
  obtain ⟨lit, hlit⟩ : ∃ lit : (Nat → Value) → Act, lit = fun vs => { tmps := List.toArray (Value.int IntKind.i64 key :: Value.int IntKind.i64 ver :: Value.agg #[Value.int IntKind.i64 m.v, Value.int IntKind.i64 m.c, Value.int IntKind.i64 m.s, Value.int IntKind.i64 m.r, Value.int IntKind.i64 m.t] :: undef :: undef :: Value.pointer (some { block := w.heap.size, off := 0 }) :: Value.pointer (some { block := w.heap.size + 1, off := 0 }) :: Value.int IntKind.i64 0 :: Value.int IntKind.i64 key :: Value.bool true :: Value.bool false :: Value.bool false :: Value.int IntKind.i64 ver :: Value.bool true :: Value.bool false :: Value.bool false :: Value.bool false :: Value.agg #[Value.int IntKind.i64 m.v, Value.int IntKind.i64 m.c, Value.int IntKind.i64 m.s, Value.int IntKind.i64 m.r, Value.int IntKind.i64 m.t] :: Value.bool true :: Value.bool false :: Value.bool false :: undef :: vs 0 :: vs 1 :: vs 2 :: vs 3 :: vs 4 :: vs 5 :: vs 6 :: undef :: undef :: undef :: undef :: undef :: undef :: undef :: undef :: undef :: undef :: undef :: []), defers := [] } := ⟨_, rfl⟩
  have HLIT := Lib.hid hlit
  clear hlit
  obtain ⟨val, hval⟩ : ∃ val : List Value, val = [.pointer (some ⟨(w.heap.size), 4, none⟩), .int .i64 m.t, .int .i64 key, .agg #[.int .i64 m.v, .int .i64 m.c, .int .i64 m.s, .int .i64 m.r, .int .i64 m.t], undef, .int .i64 tg, .bool false] := ⟨_, rfl⟩
  have E0 := Lib.hid (show val.getD 0 undef = .pointer (some ⟨(w.heap.size), 4, none⟩) by rw [hval]; rfl)
  have E1 := Lib.hid (show val.getD 1 undef = .int .i64 m.t by rw [hval]; rfl)
  have E2 := Lib.hid (show val.getD 2 undef = .int .i64 key by rw [hval]; rfl)
  have E3 := Lib.hid (show val.getD 3 undef = .agg #[.int .i64 m.v, .int .i64 m.c, .int .i64 m.s, .int .i64 m.r, .int .i64 m.t] by rw [hval]; rfl)
  have E5 := Lib.hid (show val.getD 5 undef = .int .i64 tg by rw [hval]; rfl)
  have E6 := Lib.hid (show val.getD 6 undef = .bool false by rw [hval]; rfl)
  clear hval
  obtain ⟨G, hG0⟩ : ∃ G : Nat → Value → World → Prop, G = (fun i v w => (i = 4 → IntsAt w v m.nums) ∧ (i ≠ 4 → v = val.getD i undef)) := ⟨_, rfl⟩
  have HG := Lib.hid hG0
  clear hG0
  refine region_inv (RS lit u1 G) (by kernel_rfl) (by decide +kernel) ?_ ?_ ?_
  · exact ⟨fun i => ([undef, undef, undef, undef, undef, undef, undef] : List Value).getD i undef, (by rw [HLIT.out]; rfl), below_drew _ _, fun i h => by cases h⟩
  · refine ⟨?_, ?_, ?_, ?_, ?_, ?_, ?_, trivial⟩
    · intro bf ac wv hfb haf hJ K' hK
      obtain ⟨vs, rfl, hM, j4⟩ := hJ
      replace hK := Lib.hid hK
      replace hM := Lib.hid hM
      rw [HG.out] at j4
      replace j4 := Lib.hid j4
      clear haf hfb
      rw [HLIT.out]
      go_simp
      exact hK.out _ _ (RS.next (wv := wv) (vs := vs) 0 (x := .pointer (some ⟨(w.heap.size), 4, none⟩)) (by rw [HLIT.out]; rfl) (by rw [HG.out]; exact j4.out) hM.out (by rw [HG.out]; exact fun _ _ h => h) (by rw [HG.out]; exact ⟨fun h => absurd h (by decide), fun _ => E0.out.symm⟩))
    · intro bf ac wv hfb haf hJ K' hK
      obtain ⟨vs, rfl, hM, j4⟩ := hJ
      replace hK := Lib.hid hK
      replace hM := Lib.hid hM
      rw [HG.out] at j4
      simp [Region.binds] at haf
      have e0 := ((j4 0 (by simp [haf])).2 (by decide)).trans E0.out
      replace j4 := Lib.hid j4
      clear haf hfb
      have x4 := (H8.out.step hM.out).c 4 rfl
      have xz := (H8.out.step hM.out).2.2
      rw [HLIT.out]
      go_simp
      exact hK.out _ _ (RS.next (wv := wv) (vs := vs) 1 (x := .int .i64 m.t) (by rw [HLIT.out]; simp only [upv, e0, Nat.reduceBEq, cond_true, cond_false]) (by rw [HG.out]; exact j4.out) hM.out (by rw [HG.out]; exact fun _ _ h => h) (by rw [HG.out]; exact ⟨fun h => absurd h (by decide), fun _ => E1.out.symm⟩))
    · intro bf ac wv hfb haf hJ K' hK
      obtain ⟨vs, rfl, hM, j4⟩ := hJ
      replace hK := Lib.hid hK
      replace hM := Lib.hid hM
      rw [HG.out] at j4
      replace j4 := Lib.hid j4
      clear haf hfb
      rw [HLIT.out]
      go_simp
      exact hK.out _ _ (RS.next (wv := wv) (vs := vs) 2 (x := .int .i64 key) (by rw [HLIT.out]; rfl) (by rw [HG.out]; exact j4.out) hM.out (by rw [HG.out]; exact fun _ _ h => h) (by rw [HG.out]; exact ⟨fun h => absurd h (by decide), fun _ => E2.out.symm⟩))
    · intro bf ac wv hfb haf hJ K' hK
      obtain ⟨vs, rfl, hM, j4⟩ := hJ
      replace hK := Lib.hid hK
      replace hM := Lib.hid hM
      rw [HG.out] at j4
      replace j4 := Lib.hid j4
      clear haf hfb
      have x0 := (H8.out.step hM.out).c 0 rfl
      have x1 := (H8.out.step hM.out).c 1 rfl
      have x2 := (H8.out.step hM.out).c 2 rfl
      have x3 := (H8.out.step hM.out).c 3 rfl
      have x4 := (H8.out.step hM.out).c 4 rfl
      have xz := (H8.out.step hM.out).2.2
      rw [HLIT.out]
      go_simp
      exact hK.out _ _ (RS.next (wv := wv) (vs := vs) 3 (x := .agg #[.int .i64 m.v, .int .i64 m.c, .int .i64 m.s, .int .i64 m.r, .int .i64 m.t]) (by rw [HLIT.out]; rfl) (by rw [HG.out]; exact j4.out) hM.out (by rw [HG.out]; exact fun _ _ h => h) (by rw [HG.out]; exact ⟨fun h => absurd h (by decide), fun _ => E3.out.symm⟩))
    · intro bf ac wv hfb haf hJ K' hK
      obtain ⟨vs, rfl, hM, j4⟩ := hJ
      replace hK := Lib.hid hK
      replace hM := Lib.hid hM
      rw [HG.out] at j4
      simp [Region.binds] at haf
      have e3 := ((j4 3 (by simp [haf])).2 (by decide)).trans E3.out
      replace j4 := Lib.hid j4
      clear haf hfb
      rw [HLIT.out]
      go_simp
      go_at_call 46
      refine (rnums_any m _).mono ?_
      rintro e w4 ⟨vu, rfl, hu4, b4⟩
      exact hK.out _ _ (RS.next (wv := wv) (vs := vs) 4 (x := vu) (by rw [HLIT.out]; simp only [upv, e3, Nat.reduceBEq, cond_true, cond_false]) (by rw [HG.out]; exact j4.out) (keep2 b4 hM.out) (by rw [HG.out]; exact fun k v h => ⟨fun q => (h.1 q).step b4, h.2⟩) (by rw [HG.out]; exact ⟨fun _ => hu4, fun h4 => absurd rfl h4⟩))
    · intro bf ac wv hfb haf hJ K' hK
      obtain ⟨vs, rfl, hM, j4⟩ := hJ
      replace hK := Lib.hid hK
      replace hM := Lib.hid hM
      rw [HG.out] at j4
      simp [Region.binds] at haf
      have e2 := ((j4 2 (by simp [haf])).2 (by decide)).trans E2.out
      have e4 := (j4 4 (by simp [haf])).1 rfl
      replace j4 := Lib.hid j4
      clear haf hfb
      replace e4 := Lib.hid e4
      rw [HLIT.out]
      go_simp
      go_at_call 45
      refine (rtagA_any key _ m.nums _ e4.out HNL.out).mono ?_
      rintro e w4 ⟨rfl, b4⟩
      rw [HTG.out]
      exact hK.out _ _ (RS.next (wv := wv) (vs := vs) 5 (x := .int .i64 tg) (by rw [HLIT.out]; simp only [upv, e2, Nat.reduceBEq, cond_true, cond_false]) (by rw [HG.out]; exact j4.out) (keep2 b4 hM.out) (by rw [HG.out]; exact fun k v h => ⟨fun q => (h.1 q).step b4, h.2⟩) (by rw [HG.out]; exact ⟨fun h => absurd h (by decide), fun _ => E5.out.symm⟩))
    · intro bf ac wv hfb haf hJ K' hK
      obtain ⟨vs, rfl, hM, j4⟩ := hJ
      replace hK := Lib.hid hK
      replace hM := Lib.hid hM
      rw [HG.out] at j4
      simp [Region.binds] at haf
      have e1 := ((j4 1 (by simp [haf])).2 (by decide)).trans E1.out
      have e5 := ((j4 5 (by simp [haf])).2 (by decide)).trans E5.out
      replace j4 := Lib.hid j4
      clear haf hfb
      have tq := HTN.out
      rw [HLIT.out]
      go_simp
      exact hK.out _ _ (RS.next (wv := wv) (vs := vs) 6 (x := .bool false) (by rw [HLIT.out]; simp only [upv, e1, e5, Nat.reduceBEq, cond_true, cond_false]) (by rw [HG.out]; exact j4.out) hM.out (by rw [HG.out]; exact fun _ _ h => h) (by rw [HG.out]; exact ⟨fun h => absurd h (by decide), fun _ => E6.out.symm⟩))
  · intro bf ac wv hall hJ
    obtain ⟨vs, rfl, hM, j4⟩ := hJ
    rw [HG.out] at j4
    have e5 := ((j4 6 (hall 6 (by decide))).2 (by decide)).trans E6.out
    have HM9 := Lib.hid hM
    clear hM j4 hall
    rw [HLIT.out]
    dsimp only
    rw [e5]
    clear e5 HLIT HG
    generalize vs = us8
    have H11 := Lib.hid (H8.out.step HM9.out)
    clear H8
    have H12 := Lib.hid (H9.out.step HM9.out)
    clear H9
    have H13 := Lib.hid (keep2 HM9.out H10.out)
    clear H10 HM9
    obtain ⟨U2, hU2⟩ : ∃ z9, wv = z9 := ⟨_, rfl⟩
    rw [hU2] at H11 H12 H13 ⊢
    clear hU2
    have xm0 := H11.out.c 0 rfl
    have xm1 := H11.out.c 1 rfl
    have xm2 := H11.out.c 2 rfl
    have xm3 := H11.out.c 3 rfl
    have xm4 := H11.out.c 4 rfl
    have zm := H11.out.2.2
    have t1 : decide (m.v ≤ ver) = true := decide_eq_true HVV.out
    have t2 := HVV.out
    have xr0 := H12.out.c 0 rfl
    have xr1 := H12.out.c 1 rfl
    have xr2 := H12.out.c 2 rfl
    have xr3 := H12.out.c 3 rfl
    have xr4 := H12.out.c 4 rfl
    have xr5 := H12.out.c 5 rfl
    have zr := H12.out.2.2
    have fr0 := H12.out.f 0 (by simp)
    have fr1 := H12.out.f 1 (by simp)
    have fr2 := H12.out.f 2 (by simp)
    have fr3 := H12.out.f 3 (by simp)
    have fr4 := H12.out.f 4 (by simp)
    have fr5 := H12.out.f 5 (by simp)
    have HLE := Lib.hid (show w.heap.size ≤ (w.heap.size + 1) from by omega)
    have q90 := Lib.hid (Cs.set H12.out 0 (by simp) (.int .i64 0) (vs' := #[.int .i64 0, .int .i64 0, .int .i64 0, .int .i64 0, .int .i64 0, .slice none 0 0]) rfl)
    have q91 := Lib.hid (Cs.set q90.out 1 (by simp) (.int .i64 0) (vs' := #[.int .i64 0, .int .i64 0, .int .i64 0, .int .i64 0, .int .i64 0, .slice none 0 0]) rfl)
    have q92 := Lib.hid (Cs.set q91.out 2 (by simp) (.int .i64 0) (vs' := #[.int .i64 0, .int .i64 0, .int .i64 0, .int .i64 0, .int .i64 0, .slice none 0 0]) rfl)
    have q93 := Lib.hid (Cs.set q92.out 3 (by simp) (.int .i64 0) (vs' := #[.int .i64 0, .int .i64 0, .int .i64 0, .int .i64 0, .int .i64 0, .slice none 0 0]) rfl)
    have q94 := Lib.hid (Cs.set q93.out 4 (by simp) (.int .i64 0) (vs' := #[.int .i64 0, .int .i64 0, .int .i64 0, .int .i64 0, .int .i64 0, .slice none 0 0]) rfl)
    have q95 := Lib.hid (Cs.set q94.out 5 (by simp) (.slice none 0 0) (vs' := #[.int .i64 0, .int .i64 0, .int .i64 0, .int .i64 0, .int .i64 0, .slice none 0 0]) rfl)
    clear q90 q91 q92 q93 q94
    go_wp2
    have hC := q95.out
    have hB := ((((((H13.out.setCell (p := ⟨(w.heap.size + 1), 0, none⟩) HLE.out (.int .i64 0)).setCell (p := ⟨(w.heap.size + 1), 1, none⟩) HLE.out (.int .i64 0)).setCell (p := ⟨(w.heap.size + 1), 2, none⟩) HLE.out (.int .i64 0)).setCell (p := ⟨(w.heap.size + 1), 3, none⟩) HLE.out (.int .i64 0)).setCell (p := ⟨(w.heap.size + 1), 4, none⟩) HLE.out (.int .i64 0)).setCell (p := ⟨(w.heap.size + 1), 5, none⟩) HLE.out (.slice none 0 0))
    obtain ⟨V9, hV9⟩ : ∃ z9, ((((((U2.setCell ⟨(w.heap.size + 1), 0, none⟩ (.int .i64 0)).setCell ⟨(w.heap.size + 1), 1, none⟩ (.int .i64 0)).setCell ⟨(w.heap.size + 1), 2, none⟩ (.int .i64 0)).setCell ⟨(w.heap.size + 1), 3, none⟩ (.int .i64 0)).setCell ⟨(w.heap.size + 1), 4, none⟩ (.int .i64 0)).setCell ⟨(w.heap.size + 1), 5, none⟩ (.slice none 0 0)) = z9 := ⟨_, rfl⟩
    rw [hV9] at hC hB ⊢
    clear hV9
    have k0 : V9.cell? ⟨(w.heap.size + 1), 0, none⟩ = some (.int .i64 0) := hC.c 0 rfl
    have k1 : V9.cell? ⟨(w.heap.size + 1), 1, none⟩ = some (.int .i64 0) := hC.c 1 rfl
    have k2 : V9.cell? ⟨(w.heap.size + 1), 2, none⟩ = some (.int .i64 0) := hC.c 2 rfl
    have k3 : V9.cell? ⟨(w.heap.size + 1), 3, none⟩ = some (.int .i64 0) := hC.c 3 rfl
    have k4 : V9.cell? ⟨(w.heap.size + 1), 4, none⟩ = some (.int .i64 0) := hC.c 4 rfl
    have k5 : V9.cell? ⟨(w.heap.size + 1), 5, none⟩ = some (.slice none 0 0) := hC.c 5 rfl
    exact bodyPost_ret (v := .tuple #[.agg #[.int .i64 0, .int .i64 0, .int .i64 0, .int .i64 0, .int .i64 0, .slice none 0 0], .int .i64 31]) (by simp [results, Try.results14, go_sem, k0, k1, k2, k3, k4, k5]) rfl (⟨_, rfl, ⟨rows_nil _, by simp, fun g off n c e => by cases e⟩, hB⟩)
set_option maxRecDepth 100000 in
set_option maxHeartbeats 8000000 in
theorem rbegin_ok (key ver : Int) (m : Mf) (w : World) (hk0 : inB 0 2147483646 key = true) (hk1 : inB 0 1000000 ver = true) (hk2 : mfB m = true) (tg : Int) (htg : tgM key m = tg) (hn : m.t = tg) (hv : ¬ m.v ≤ ver) (n : Nat) (hc : m.c = n) : Calls Try.prog 14 #[.int .i64 key, .int .i64 ver, .agg #[.int .i64 m.v, .int .i64 m.c, .int .i64 m.s, .int .i64 m.r, .int .i64 m.t]] w (ChN m (List.replicate n []) 0 w) := by
  have HK0 := Lib.hid hk0
  have HK1 := Lib.hid hk1
  have HK2 := Lib.hid hk2
  have HTG := Lib.hid (show Dg (tgd key m.nums) = tg from htg)
  have HNL := Lib.hid (show m.nums.length ≤ 5000 by simp [Mf.nums])
  have HTN := Lib.hid (show (m.t != tg) = false by simpa using hn)
  have HVV := Lib.hid hv
  have HN9 := Lib.hid (show n ≤ 100000 by have := (mfB_parts hk2).2.1; omega)
  have HMK := Lib.hid (hmkR m.c n hc HN9.out)
  clear htg hn hv hc
  clear hk0 hk1 hk2
  have H0 := Lib.hid (Below.refl w.heap.size w)
  have H1 := Lib.hid (Cs.newB H0.out (w.heap.size) #[.int .i64 m.v, .int .i64 m.c, .int .i64 m.s, .int .i64 m.r, .int .i64 m.t] 24 (by simp))
  have H2 := Lib.hid (keep2 (al _ (.cells #[.int .i64 m.v, .int .i64 m.c, .int .i64 m.s, .int .i64 m.r, .int .i64 m.t] 24)) H0.out)
  clear H0
  have H3 := Lib.hid (Cs.newB H2.out (w.heap.size + 1) #[.int .i64 0, .int .i64 0, .int .i64 0, .int .i64 0, .int .i64 0, .slice none 0 0] 27 (by simp))
  have H4 := Lib.hid (H1.out.step (al _ (.cells #[.int .i64 0, .int .i64 0, .int .i64 0, .int .i64 0, .int .i64 0, .slice none 0 0] 27)))
  clear H1
  have H5 := Lib.hid (keep2 (al _ (.cells #[.int .i64 0, .int .i64 0, .int .i64 0, .int .i64 0, .int .i64 0, .slice none 0 0] 27)) H2.out)
  clear H2
  go_enter Try.func14, Try.ntmps14
  have xm0 := H4.out.c 0 rfl
  have xm1 := H4.out.c 1 rfl
  have xm2 := H4.out.c 2 rfl
  have xm3 := H4.out.c 3 rfl
  have xm4 := H4.out.c 4 rfl
  have zm := H4.out.2.2
  have xr0 := H3.out.c 0 rfl
  have xr1 := H3.out.c 1 rfl
  have xr2 := H3.out.c 2 rfl
  have xr3 := H3.out.c 3 rfl
  have xr4 := H3.out.c 4 rfl
  have xr5 := H3.out.c 5 rfl
  have zr := H3.out.2.2
  go_wp2_with fail
  refine (rdig_any key _).mono ?_
  rintro e wq6 ⟨rfl, rfl⟩
  rw [HK0.out]
  go_wp2_with fail
  refine (rbtw_any ver 0 1000000 _).mono ?_
  rintro e wq7 ⟨rfl, rfl⟩
  rw [HK1.out]
  go_wp2_with fail
  refine (rmanif_any m _).mono ?_
  rintro e u1 ⟨rfl, b1⟩
  clear xm0 xm1 xm2 xm3 xm4 zm xr0 xr1 xr2 xr3 xr4 xr5 zr
  have H8 := Lib.hid (H4.out.step b1)
  clear H4
  have H9 := Lib.hid (H3.out.step b1)
  clear H3
  have H10 := Lib.hid (keep2 b1 H5.out)
  clear H5
  clear b1
  rw [HK2.out]
  have xm0 := H8.out.c 0 rfl
  have xm1 := H8.out.c 1 rfl
  have xm2 := H8.out.c 2 rfl
  have xm3 := H8.out.c 3 rfl
  have xm4 := H8.out.c 4 rfl
  have zm := H8.out.2.2
  go_upto_region 3 with fail
  clear xm0 xm1 xm2 xm3 xm4 zm
  obtain ⟨lit, hlit⟩ : ∃ lit : (Nat → Value) → Act, lit = fun vs => { tmps := List.toArray (Value.int IntKind.i64 key :: Value.int IntKind.i64 ver :: Value.agg #[Value.int IntKind.i64 m.v, Value.int IntKind.i64 m.c, Value.int IntKind.i64 m.s, Value.int IntKind.i64 m.r, Value.int IntKind.i64 m.t] :: undef :: undef :: Value.pointer (some { block := w.heap.size, off := 0 }) :: Value.pointer (some { block := w.heap.size + 1, off := 0 }) :: Value.int IntKind.i64 0 :: Value.int IntKind.i64 key :: Value.bool true :: Value.bool false :: Value.bool false :: Value.int IntKind.i64 ver :: Value.bool true :: Value.bool false :: Value.bool false :: Value.bool false :: Value.agg #[Value.int IntKind.i64 m.v, Value.int IntKind.i64 m.c, Value.int IntKind.i64 m.s, Value.int IntKind.i64 m.r, Value.int IntKind.i64 m.t] :: Value.bool true :: Value.bool false :: Value.bool false :: undef :: vs 0 :: vs 1 :: vs 2 :: vs 3 :: vs 4 :: vs 5 :: vs 6 :: undef :: undef :: undef :: undef :: undef :: undef :: undef :: undef :: undef :: undef :: undef :: []), defers := [] } := ⟨_, rfl⟩
  have HLIT := Lib.hid hlit
  clear hlit
  obtain ⟨val, hval⟩ : ∃ val : List Value, val = [.pointer (some ⟨(w.heap.size), 4, none⟩), .int .i64 m.t, .int .i64 key, .agg #[.int .i64 m.v, .int .i64 m.c, .int .i64 m.s, .int .i64 m.r, .int .i64 m.t], undef, .int .i64 tg, .bool false] := ⟨_, rfl⟩
  have E0 := Lib.hid (show val.getD 0 undef = .pointer (some ⟨(w.heap.size), 4, none⟩) by rw [hval]; rfl)
  have E1 := Lib.hid (show val.getD 1 undef = .int .i64 m.t by rw [hval]; rfl)
  have E2 := Lib.hid (show val.getD 2 undef = .int .i64 key by rw [hval]; rfl)
  have E3 := Lib.hid (show val.getD 3 undef = .agg #[.int .i64 m.v, .int .i64 m.c, .int .i64 m.s, .int .i64 m.r, .int .i64 m.t] by rw [hval]; rfl)
  have E5 := Lib.hid (show val.getD 5 undef = .int .i64 tg by rw [hval]; rfl)
  have E6 := Lib.hid (show val.getD 6 undef = .bool false by rw [hval]; rfl)
  clear hval
  obtain ⟨G, hG0⟩ : ∃ G : Nat → Value → World → Prop, G = (fun i v w => (i = 4 → IntsAt w v m.nums) ∧ (i ≠ 4 → v = val.getD i undef)) := ⟨_, rfl⟩
  have HG := Lib.hid hG0
  clear hG0
  refine region_inv (RS lit u1 G) (by kernel_rfl) (by decide +kernel) ?_ ?_ ?_
  · exact ⟨fun i => ([undef, undef, undef, undef, undef, undef, undef] : List Value).getD i undef, (by rw [HLIT.out]; rfl), below_drew _ _, fun i h => by cases h⟩
  · refine ⟨?_, ?_, ?_, ?_, ?_, ?_, ?_, trivial⟩
    · intro bf ac wv hfb haf hJ K' hK
      obtain ⟨vs, rfl, hM, j4⟩ := hJ
      replace hK := Lib.hid hK
      replace hM := Lib.hid hM
      rw [HG.out] at j4
      replace j4 := Lib.hid j4
      clear haf hfb
      rw [HLIT.out]
      go_simp
      exact hK.out _ _ (RS.next (wv := wv) (vs := vs) 0 (x := .pointer (some ⟨(w.heap.size), 4, none⟩)) (by rw [HLIT.out]; rfl) (by rw [HG.out]; exact j4.out) hM.out (by rw [HG.out]; exact fun _ _ h => h) (by rw [HG.out]; exact ⟨fun h => absurd h (by decide), fun _ => E0.out.symm⟩))
    · intro bf ac wv hfb haf hJ K' hK
      obtain ⟨vs, rfl, hM, j4⟩ := hJ
      replace hK := Lib.hid hK
      replace hM := Lib.hid hM
      rw [HG.out] at j4
      simp [Region.binds] at haf
      have e0 := ((j4 0 (by simp [haf])).2 (by decide)).trans E0.out
      replace j4 := Lib.hid j4
      clear haf hfb
      have x4 := (H8.out.step hM.out).c 4 rfl
      have xz := (H8.out.step hM.out).2.2
      rw [HLIT.out]
      go_simp
      exact hK.out _ _ (RS.next (wv := wv) (vs := vs) 1 (x := .int .i64 m.t) (by rw [HLIT.out]; simp only [upv, e0, Nat.reduceBEq, cond_true, cond_false]) (by rw [HG.out]; exact j4.out) hM.out (by rw [HG.out]; exact fun _ _ h => h) (by rw [HG.out]; exact ⟨fun h => absurd h (by decide), fun _ => E1.out.symm⟩))
    · intro bf ac wv hfb haf hJ K' hK
      obtain ⟨vs, rfl, hM, j4⟩ := hJ
      replace hK := Lib.hid hK
      replace hM := Lib.hid hM
      rw [HG.out] at j4
      replace j4 := Lib.hid j4
      clear haf hfb
      rw [HLIT.out]
      go_simp
      exact hK.out _ _ (RS.next (wv := wv) (vs := vs) 2 (x := .int .i64 key) (by rw [HLIT.out]; rfl) (by rw [HG.out]; exact j4.out) hM.out (by rw [HG.out]; exact fun _ _ h => h) (by rw [HG.out]; exact ⟨fun h => absurd h (by decide), fun _ => E2.out.symm⟩))
    · intro bf ac wv hfb haf hJ K' hK
      obtain ⟨vs, rfl, hM, j4⟩ := hJ
      replace hK := Lib.hid hK
      replace hM := Lib.hid hM
      rw [HG.out] at j4
      replace j4 := Lib.hid j4
      clear haf hfb
      have x0 := (H8.out.step hM.out).c 0 rfl
      have x1 := (H8.out.step hM.out).c 1 rfl
      have x2 := (H8.out.step hM.out).c 2 rfl
      have x3 := (H8.out.step hM.out).c 3 rfl
      have x4 := (H8.out.step hM.out).c 4 rfl
      have xz := (H8.out.step hM.out).2.2
      rw [HLIT.out]
      go_simp
      exact hK.out _ _ (RS.next (wv := wv) (vs := vs) 3 (x := .agg #[.int .i64 m.v, .int .i64 m.c, .int .i64 m.s, .int .i64 m.r, .int .i64 m.t]) (by rw [HLIT.out]; rfl) (by rw [HG.out]; exact j4.out) hM.out (by rw [HG.out]; exact fun _ _ h => h) (by rw [HG.out]; exact ⟨fun h => absurd h (by decide), fun _ => E3.out.symm⟩))
    · intro bf ac wv hfb haf hJ K' hK
      obtain ⟨vs, rfl, hM, j4⟩ := hJ
      replace hK := Lib.hid hK
      replace hM := Lib.hid hM
      rw [HG.out] at j4
      simp [Region.binds] at haf
      have e3 := ((j4 3 (by simp [haf])).2 (by decide)).trans E3.out
      replace j4 := Lib.hid j4
      clear haf hfb
      rw [HLIT.out]
      go_simp
      go_at_call 46
      refine (rnums_any m _).mono ?_
      rintro e w4 ⟨vu, rfl, hu4, b4⟩
      exact hK.out _ _ (RS.next (wv := wv) (vs := vs) 4 (x := vu) (by rw [HLIT.out]; simp only [upv, e3, Nat.reduceBEq, cond_true, cond_false]) (by rw [HG.out]; exact j4.out) (keep2 b4 hM.out) (by rw [HG.out]; exact fun k v h => ⟨fun q => (h.1 q).step b4, h.2⟩) (by rw [HG.out]; exact ⟨fun _ => hu4, fun h4 => absurd rfl h4⟩))
    · intro bf ac wv hfb haf hJ K' hK
      obtain ⟨vs, rfl, hM, j4⟩ := hJ
      replace hK := Lib.hid hK
      replace hM := Lib.hid hM
      rw [HG.out] at j4
      simp [Region.binds] at haf
      have e2 := ((j4 2 (by simp [haf])).2 (by decide)).trans E2.out
      have e4 := (j4 4 (by simp [haf])).1 rfl
      replace j4 := Lib.hid j4
      clear haf hfb
      replace e4 := Lib.hid e4
      rw [HLIT.out]
      go_simp
      go_at_call 45
      refine (rtagA_any key _ m.nums _ e4.out HNL.out).mono ?_
      rintro e w4 ⟨rfl, b4⟩
      rw [HTG.out]
      exact hK.out _ _ (RS.next (wv := wv) (vs := vs) 5 (x := .int .i64 tg) (by rw [HLIT.out]; simp only [upv, e2, Nat.reduceBEq, cond_true, cond_false]) (by rw [HG.out]; exact j4.out) (keep2 b4 hM.out) (by rw [HG.out]; exact fun k v h => ⟨fun q => (h.1 q).step b4, h.2⟩) (by rw [HG.out]; exact ⟨fun h => absurd h (by decide), fun _ => E5.out.symm⟩))
    · intro bf ac wv hfb haf hJ K' hK
      obtain ⟨vs, rfl, hM, j4⟩ := hJ
      replace hK := Lib.hid hK
      replace hM := Lib.hid hM
      rw [HG.out] at j4
      simp [Region.binds] at haf
      have e1 := ((j4 1 (by simp [haf])).2 (by decide)).trans E1.out
      have e5 := ((j4 5 (by simp [haf])).2 (by decide)).trans E5.out
      replace j4 := Lib.hid j4
      clear haf hfb
      have tq := HTN.out
      rw [HLIT.out]
      go_simp
      exact hK.out _ _ (RS.next (wv := wv) (vs := vs) 6 (x := .bool false) (by rw [HLIT.out]; simp only [upv, e1, e5, Nat.reduceBEq, cond_true, cond_false]) (by rw [HG.out]; exact j4.out) hM.out (by rw [HG.out]; exact fun _ _ h => h) (by rw [HG.out]; exact ⟨fun h => absurd h (by decide), fun _ => E6.out.symm⟩))
  · intro bf ac wv hall hJ
    obtain ⟨vs, rfl, hM, j4⟩ := hJ
    rw [HG.out] at j4
    have e5 := ((j4 6 (hall 6 (by decide))).2 (by decide)).trans E6.out
    have HM9 := Lib.hid hM
    clear hM j4 hall
    rw [HLIT.out]
    dsimp only
    rw [e5]
    clear e5 HLIT HG
    generalize vs = us8
    have H11 := Lib.hid (H8.out.step HM9.out)
    clear H8
    have H12 := Lib.hid (H9.out.step HM9.out)
    clear H9
    have H13 := Lib.hid (keep2 HM9.out H10.out)
    clear H10 HM9
    obtain ⟨U2, hU2⟩ : ∃ z9, wv = z9 := ⟨_, rfl⟩
    rw [hU2] at H11 H12 H13 ⊢
    clear hU2
    have xm0 := H11.out.c 0 rfl
    have xm1 := H11.out.c 1 rfl
    have xm2 := H11.out.c 2 rfl
    have xm3 := H11.out.c 3 rfl
    have xm4 := H11.out.c 4 rfl
    have zm := H11.out.2.2
    have t1 : decide (m.v ≤ ver) = false := decide_eq_false (show ¬ m.v ≤ ver by have := HVV.out; omega)
    have t2 : ¬ m.v ≤ ver := by have := HVV.out; omega
    go_upto_region 7 with fail
    clear xm0 xm1 xm2 xm3 xm4 zm
    clear t1 t2
    have HRZ := Lib.hid (show (w.heap.size + 1) < U2.heap.size from H12.out.2.2)
    have HRW := Lib.hid (show w.heap.size ≤ (w.heap.size + 1) by omega)
    obtain ⟨lit, hlit⟩ : ∃ lit : (Nat → Value) → Act, lit = fun vs => { tmps := List.toArray (Value.int IntKind.i64 key :: Value.int IntKind.i64 ver :: Value.agg #[Value.int IntKind.i64 m.v, Value.int IntKind.i64 m.c, Value.int IntKind.i64 m.s, Value.int IntKind.i64 m.r, Value.int IntKind.i64 m.t] :: undef :: undef :: Value.pointer (some { block := w.heap.size, off := 0 }) :: Value.pointer (some { block := w.heap.size + 1, off := 0 }) :: vs 6 :: Value.int IntKind.i64 key :: Value.bool true :: Value.bool false :: Value.bool false :: Value.int IntKind.i64 ver :: Value.bool true :: Value.bool false :: Value.bool false :: Value.bool false :: Value.agg #[Value.int IntKind.i64 m.v, Value.int IntKind.i64 m.c, Value.int IntKind.i64 m.s, Value.int IntKind.i64 m.r, Value.int IntKind.i64 m.t] :: Value.bool true :: Value.bool false :: Value.bool false :: undef :: us8 0 :: us8 1 :: us8 2 :: us8 3 :: us8 4 :: us8 5 :: Value.bool false :: undef :: Value.pointer (some { block := w.heap.size, off := 0 }) :: Value.int IntKind.i64 m.v :: Value.int IntKind.i64 ver :: Value.bool false :: undef :: vs 0 :: vs 1 :: vs 2 :: vs 3 :: vs 4 :: []), defers := [] } := ⟨_, rfl⟩
    have HLIT := Lib.hid hlit
    clear hlit
    obtain ⟨val, hval⟩ : ∃ val : List Value, val = [.agg #[.int .i64 m.v, .int .i64 m.c, .int .i64 m.s, .int .i64 m.r, .int .i64 m.t], .pointer (some ⟨(w.heap.size), 1, none⟩), .int .i64 m.c, undef, undef, undef, .int .i64 0] := ⟨_, rfl⟩
    have E0 := Lib.hid (show val.getD 0 undef = .agg #[.int .i64 m.v, .int .i64 m.c, .int .i64 m.s, .int .i64 m.r, .int .i64 m.t] by rw [hval]; rfl)
    have E1 := Lib.hid (show val.getD 1 undef = .pointer (some ⟨(w.heap.size), 1, none⟩) by rw [hval]; rfl)
    have E2 := Lib.hid (show val.getD 2 undef = .int .i64 m.c by rw [hval]; rfl)
    have E6 := Lib.hid (show val.getD 6 undef = .int .i64 0 by rw [hval]; rfl)
    clear hval
    obtain ⟨G, hG0⟩ : ∃ G : Bool → Nat → Value → World → Prop, G = (fun bq iq vq ww => (iq = 3 → QrN U2.heap.size n bq vq ww) ∧ (iq = 4 → QrA m U2.heap.size n bq vq ww) ∧ (iq ≠ 3 → iq ≠ 4 → iq ≠ 5 → vq = val.getD iq undef)) := ⟨_, rfl⟩
    have HG := Lib.hid hG0
    clear hG0
    refine region_inv (NS lit 5 (fun p q => (p == 5 && q == 0) || (p == 5 && q == 1) || (p == 5 && q == 2) || (p == 5 && q == 3) || (p == 5 && q == 4) || (p == 4 && q == 3)) G fun bq wv => (bq = false → Below U2.heap.size U2 wv) ∧ (bq = true → ∃ g, Cs wv (w.heap.size + 1) #[.int .i64 m.v, .int .i64 m.c, .int .i64 m.s, .int .i64 m.r, .int .i64 m.t, .slice (some ⟨g, 0, none⟩) n n] ∧ BoxN wv g (Array.replicate n (.slice none 0 0)) 22 ∧ Below w.heap.size w wv ∧ U2.heap.size ≤ g)) (by kernel_rfl) (by decide +kernel) ?_ ?_ ?_
    · exact NS.start (fun i => ([undef, undef, undef, undef, undef, undef, Value.int IntKind.i64 0] : List Value).getD i undef) (by rw [HLIT.out]; rfl) ⟨fun _ => below_drew _ _, fun h => (by cases h)⟩
    · refine ⟨?_, ?_, ?_, ?_, ?_, ?_, ?_, trivial⟩
      · intro bf ac wv hfb haf hJ K' hK
        obtain ⟨vs, rfl, ja, hB, j4⟩ := hJ
        replace hK := Lib.hid hK
        rw [HG.out] at j4
        have hd : bf 5 = false := by
          cases h : bf 5
          · rfl
          · exact absurd ((ja 5 0 rfl h).symm.trans hfb) (by simp)
        have hM := Lib.hid (hB.1 hd)
        replace j4 := Lib.hid (And.intro ja j4)
        replace hB := Lib.hid hB
        clear ja haf
        have x0 := (H11.out.step hM.out).c 0 rfl
        have x1 := (H11.out.step hM.out).c 1 rfl
        have x2 := (H11.out.step hM.out).c 2 rfl
        have x3 := (H11.out.step hM.out).c 3 rfl
        have x4 := (H11.out.step hM.out).c 4 rfl
        have xz := (H11.out.step hM.out).2.2
        rw [HLIT.out]
        go_simp
        exact hK.out _ _ (NS.next (wv := wv) (vs := vs) 0 (by omega) (fun q h => absurd h (by simp)) (x := .agg #[.int .i64 m.v, .int .i64 m.c, .int .i64 m.s, .int .i64 m.r, .int .i64 m.t]) (by rw [HLIT.out]; rfl) (by rw [HG.out]; exact j4.out) hB.out (by rw [HG.out]; exact fun _ _ h => h) (by rw [HG.out]; exact ⟨fun h => absurd h (by decide), fun h => absurd h (by decide), fun _ _ _ => E0.out.symm⟩))
      · intro bf ac wv hfb haf hJ K' hK
        obtain ⟨vs, rfl, ja, hB, j4⟩ := hJ
        replace hK := Lib.hid hK
        rw [HG.out] at j4
        replace j4 := Lib.hid (And.intro ja j4)
        replace hB := Lib.hid hB
        clear ja haf
        rw [HLIT.out]
        go_simp
        exact hK.out _ _ (NS.next (wv := wv) (vs := vs) 1 (by omega) (fun q h => absurd h (by simp)) (x := .pointer (some ⟨(w.heap.size), 1, none⟩)) (by rw [HLIT.out]; rfl) (by rw [HG.out]; exact j4.out) hB.out (by rw [HG.out]; exact fun _ _ h => h) (by rw [HG.out]; exact ⟨fun h => absurd h (by decide), fun h => absurd h (by decide), fun _ _ _ => E1.out.symm⟩))
      · intro bf ac wv hfb haf hJ K' hK
        obtain ⟨vs, rfl, ja, hB, j4⟩ := hJ
        replace hK := Lib.hid hK
        simp [Region.binds] at haf
        rw [HG.out] at j4
        have e1 := ((j4 1 (by simp [haf])).2.2 (by decide) (by decide) (by decide)).trans E1.out
        have hd : bf 5 = false := by
          cases h : bf 5
          · rfl
          · exact absurd ((ja 5 2 rfl h).symm.trans hfb) (by simp)
        have hM := Lib.hid (hB.1 hd)
        replace j4 := Lib.hid (And.intro ja j4)
        replace hB := Lib.hid hB
        clear ja haf
        have x1 := (H11.out.step hM.out).c 1 rfl
        have xz := (H11.out.step hM.out).2.2
        rw [HLIT.out]
        go_simp
        exact hK.out _ _ (NS.next (wv := wv) (vs := vs) 2 (by omega) (fun q h => absurd h (by simp)) (x := .int .i64 m.c) (by rw [HLIT.out]; simp only [upv, e1, Nat.reduceBEq, cond_true, cond_false]) (by rw [HG.out]; exact j4.out) hB.out (by rw [HG.out]; exact fun _ _ h => h) (by rw [HG.out]; exact ⟨fun h => absurd h (by decide), fun h => absurd h (by decide), fun _ _ _ => E2.out.symm⟩))
      · intro bf ac wv hfb haf hJ K' hK
        obtain ⟨vs, rfl, ja, hB, j4⟩ := hJ
        replace hK := Lib.hid hK
        simp [Region.binds] at haf
        rw [HG.out] at j4
        have e2 := ((j4 2 (by simp [haf])).2.2 (by decide) (by decide) (by decide)).trans E2.out
        have hd : bf 5 = false := by
          cases h : bf 5
          · rfl
          · exact absurd ((ja 5 3 rfl h).symm.trans hfb) (by simp)
        have hM := Lib.hid (hB.1 hd)
        replace j4 := Lib.hid (And.intro ja j4)
        replace hB := Lib.hid hB
        clear ja haf
        have hmk := HMK.out
        rw [HLIT.out]
        go_simp
        have b4 := al wv (.cells (Array.replicate n (.slice none 0 0)) 22)
        exact hK.out _ _ (NS.next (wv := wv) (vs := vs) 3 (by omega) (fun q h => absurd h (by simp)) (x := (.slice (some ⟨wv.heap.size, 0, none⟩) n n)) (by rw [HLIT.out]; simp only [upv, e2, Nat.reduceBEq, cond_true, cond_false]) (by rw [HG.out]; exact j4.out) ⟨fun _ => keep2 b4 hM.out, fun e => absurd (e.symm.trans hd) (by simp)⟩ (by rw [HG.out]; exact fun k hbk h => ⟨fun q => ((h.1 q).step b4), fun q => ((h.2.1 q).step b4), h.2.2⟩) (by rw [HG.out]; exact ⟨fun _ => (by rw [hd]; exact ⟨wv.heap.size, rfl, fun _ => ⟨BoxN.new wv _ 22, hM.out.size⟩⟩), fun h => absurd h (by decide), fun h3 => absurd rfl h3⟩))
      · intro bf ac wv hfb haf hJ K' hK
        obtain ⟨vs, rfl, ja, hB, j4⟩ := hJ
        replace hK := Lib.hid hK
        simp [Region.binds] at haf
        rw [HG.out] at j4
        have e0 := ((j4 0 (by simp [haf])).2.2 (by decide) (by decide) (by decide)).trans E0.out
        have e3 := (j4 3 (by simp [haf])).1 rfl
        obtain ⟨g, e3, h3⟩ := e3
        have HB3 := Lib.hid h3
        clear h3
        replace j4 := Lib.hid (And.intro ja j4)
        replace hB := Lib.hid hB
        have ha0 : bf 0 = true := by simp [haf]
        have ha3 : bf 3 = true := by simp [haf]
        clear ja haf
        rw [HLIT.out]
        go_simp
        exact hK.out _ _ (NS.next (wv := wv) (vs := vs) 4 (by omega) (fun q h => by
          obtain rfl : q = 3 := by simpa using h
          exact ha3) (x := .agg #[.int .i64 m.v, .int .i64 m.c, .int .i64 m.s, .int .i64 m.r, .int .i64 m.t, .slice (some ⟨g, 0, none⟩) n n]) (by rw [HLIT.out]; simp only [upv, e0, e3, Nat.reduceBEq, cond_true, cond_false]) (by rw [HG.out]; exact j4.out) hB.out (by rw [HG.out]; exact fun _ _ h => h) (by rw [HG.out]; exact ⟨fun h => absurd h (by decide), fun _ => ⟨g, rfl, HB3.out⟩, fun h3 h4 => absurd rfl h4⟩))
      · intro bf ac wv hfb haf hJ K' hK
        obtain ⟨vs, rfl, ja, hB, j4⟩ := hJ
        replace hK := Lib.hid hK
        simp [Region.binds] at haf
        rw [HG.out] at j4
        have e4 := (j4 4 (by simp [haf])).2.1 rfl
        rw [hfb] at j4 hB
        try rw [hfb] at e4
        have HA := Lib.hid (show ∀ q, (fun p q => (p == 5 && q == 0) || (p == 5 && q == 1) || (p == 5 && q == 2) || (p == 5 && q == 3) || (p == 5 && q == 4) || (p == 4 && q == 3)) 5 q = true → bf q = true from fun q hi => by
          obtain rfl | rfl | rfl | rfl | rfl : q = 0 ∨ q = 1 ∨ q = 2 ∨ q = 3 ∨ q = 4 := by simpa [or_assoc] using hi
          all_goals simp [haf])
        have hM := Lib.hid (hB.1 rfl)
        replace j4 := Lib.hid j4
        have HE := Lib.hid (And.intro ja HA.out)
        clear ja haf hB HA
        obtain ⟨g, e4, h4⟩ := e4
        obtain ⟨hbx, hg⟩ := h4 rfl
        have hC := H12.out.step hM.out
        replace hC := Lib.hid hC
        replace hbx := Lib.hid hbx
        replace hg := Lib.hid hg
        have x0 := hC.out.c 0 rfl
        have y0 := hC.out.f 0 (by simp)
        have x1 := hC.out.c 1 rfl
        have y1 := hC.out.f 1 (by simp)
        have x2 := hC.out.c 2 rfl
        have y2 := hC.out.f 2 (by simp)
        have x3 := hC.out.c 3 rfl
        have y3 := hC.out.f 3 (by simp)
        have x4 := hC.out.c 4 rfl
        have y4 := hC.out.f 4 (by simp)
        have x5 := hC.out.c 5 rfl
        have y5 := hC.out.f 5 (by simp)
        have xz := hC.out.2.2
        rw [HLIT.out]
        go_simp
        have hne : g ≠ (w.heap.size + 1) := by have h1 := hg.out; have h2 := HRZ.out; omega
        exact hK.out _ _ (NS.put (vs := vs) (w' := ((((((wv.setCell ⟨(w.heap.size + 1), 0, none⟩ (.int .i64 m.v)).setCell ⟨(w.heap.size + 1), 1, none⟩ (.int .i64 m.c)).setCell ⟨(w.heap.size + 1), 2, none⟩ (.int .i64 m.s)).setCell ⟨(w.heap.size + 1), 3, none⟩ (.int .i64 m.r)).setCell ⟨(w.heap.size + 1), 4, none⟩ (.int .i64 m.t)).setCell ⟨(w.heap.size + 1), 5, none⟩ (.slice (some ⟨g, 0, none⟩) n n))) (by rw [HLIT.out]; simp only [e4]) HE.out ⟨fun e => (by cases e), fun _ => ⟨g, (Cs.set (Cs.set (Cs.set (Cs.set (Cs.set (Cs.set hC.out 0 (by simp) (.int .i64 m.v) rfl) 1 (by simp) (.int .i64 m.c) rfl) 2 (by simp) (.int .i64 m.s) rfl) 3 (by simp) (.int .i64 m.r) rfl) 4 (by simp) (.int .i64 m.t) rfl) 5 (by simp) (.slice (some ⟨g, 0, none⟩) n n) (vs' := #[.int .i64 m.v, .int .i64 m.c, .int .i64 m.s, .int .i64 m.r, .int .i64 m.t, .slice (some ⟨g, 0, none⟩) n n]) rfl), (BoxN.away (BoxN.away (BoxN.away (BoxN.away (BoxN.away (BoxN.away hbx.out hne 0 (.int .i64 m.v)) hne 1 (.int .i64 m.c)) hne 2 (.int .i64 m.s)) hne 3 (.int .i64 m.r)) hne 4 (.int .i64 m.t)) hne 5 (.slice (some ⟨g, 0, none⟩) n n)), (((((((keep2 hM.out H13.out).setCell (p := ⟨(w.heap.size + 1), 0, none⟩) HRW.out (.int .i64 m.v)).setCell (p := ⟨(w.heap.size + 1), 1, none⟩) HRW.out (.int .i64 m.c)).setCell (p := ⟨(w.heap.size + 1), 2, none⟩) HRW.out (.int .i64 m.s)).setCell (p := ⟨(w.heap.size + 1), 3, none⟩) HRW.out (.int .i64 m.r)).setCell (p := ⟨(w.heap.size + 1), 4, none⟩) HRW.out (.int .i64 m.t)).setCell (p := ⟨(w.heap.size + 1), 5, none⟩) HRW.out (.slice (some ⟨g, 0, none⟩) n n)), hg.out⟩⟩ (fun j hj hb => by
          have q := j4.out j hb
          rw [HG.out]
          exact ⟨fun h => (q.1 h).put _, fun h => (q.2.1 h).put _, q.2.2⟩) (fun v => by rw [HG.out]; exact ⟨fun h => absurd h (by decide), fun h => absurd h (by decide), fun h3 h4 h5 => absurd rfl h5⟩))
      · intro bf ac wv hfb haf hJ K' hK
        obtain ⟨vs, rfl, ja, hB, j4⟩ := hJ
        replace hK := Lib.hid hK
        rw [HG.out] at j4
        replace j4 := Lib.hid (And.intro ja j4)
        replace hB := Lib.hid hB
        clear ja haf
        rw [HLIT.out]
        go_simp
        exact hK.out _ _ (NS.next (wv := wv) (vs := vs) 6 (by omega) (fun q h => absurd h (by simp)) (x := .int .i64 0) (by rw [HLIT.out]; rfl) (by rw [HG.out]; exact j4.out) hB.out (by rw [HG.out]; exact fun _ _ h => h) (by rw [HG.out]; exact ⟨fun h => absurd h (by decide), fun h => absurd h (by decide), fun _ _ _ => E6.out.symm⟩))
    · intro bf ac wv hall hJ
      obtain ⟨vs, rfl, -, hB, j4⟩ := hJ
      rw [HG.out] at j4
      rw [hall 5 (by decide)] at hB j4
      have hM := Lib.hid (hB.2 rfl)
      clear hB
      have e6 := ((j4 6 (hall 6 (by decide))).2.2 (by decide) (by decide) (by decide)).trans E6.out
      obtain ⟨g, hC, hbx, hbl, hgg⟩ := hM.out
      have HGG := Lib.hid hgg
      have HBX := Lib.hid hbx
      have HBL := Lib.hid hbl
      have k0 := hC.c 0 rfl
      have k1 := hC.c 1 rfl
      have k2 := hC.c 2 rfl
      have k3 := hC.c 3 rfl
      have k4 := hC.c 4 rfl
      have k5 := hC.c 5 rfl
      clear hM j4 hall hC hbx hbl hgg
      rw [HLIT.out]
      dsimp only
      rw [e6]
      clear e6
      go_wp2
      exact bodyPost_ret (v := .tuple #[.agg #[.int .i64 m.v, .int .i64 m.c, .int .i64 m.s, .int .i64 m.r, .int .i64 m.t, .slice (some ⟨g, 0, none⟩) n n], .int .i64 0]) (by simp [results, Try.results14, go_sem, k0, k1, k2, k3, k4, k5]) rfl ⟨_, rfl, ⟨rows_nils HBX.out HN9.out, fun x hx => List.eq_of_mem_replicate hx, fun g1 off n1 c e => by
          cases e
          have h1 := HGG.out
          have h2 := HRZ.out
          exact ⟨by omega, rfl, HBX.out⟩⟩, HBL.out⟩
set_option maxRecDepth 100000 in
set_option maxHeartbeats 8000000 in
theorem rbegin_own (key ver : Int) (m : Mf) {E : Int} {M' : Mf} {L' : List (List Int)} (hE : bgE key ver m = E) (hM : bgM E m = M') (hL : bgL E m = L') (w : World) : Calls Try.prog 14 #[.int .i64 key, .int .i64 ver, .agg #[.int .i64 m.v, .int .i64 m.c, .int .i64 m.s, .int .i64 m.r, .int .i64 m.t]] w (ChN M' L' E w) := by
  subst hM hL hE
  have one : (inB 0 2147483646 key && (inB 0 1000000 ver && mfB m)) = false → bgE key ver m = 1 := fun h => by unfold bgE; rw [if_pos h]
  cases h0 : inB 0 2147483646 key
  · rw [one (by rw [h0]; rfl)]; exact rbegin_k key ver m w h0
  · cases h1 : inB 0 1000000 ver
    · rw [one (by rw [h0, h1]; rfl)]; exact rbegin_v key ver m w h0 h1
    · cases h2 : mfB m
      · rw [one (by rw [h0, h1, h2]; rfl)]; exact rbegin_m key ver m w h0 h1 h2
      · have hall : ¬ (inB 0 2147483646 key && (inB 0 1000000 ver && mfB m)) = false := by rw [h0, h1, h2]; simp
        by_cases ht : m.t = tgM key m
        · by_cases hv : m.v ≤ ver
          · have : bgE key ver m = 31 := by unfold bgE; rw [if_neg hall, if_neg (by simpa using ht), if_pos hv]
            rw [this]; exact rbegin_s key ver m w h0 h1 h2 _ rfl ht hv
          · have : bgE key ver m = 0 := by unfold bgE; rw [if_neg hall, if_neg (by simpa using ht), if_neg hv]
            rw [this]
            have hc : m.c = (m.c.toNat : Int) := by have := (mfB_parts h2).2.1; omega
            exact rbegin_ok key ver m w h0 h1 h2 _ rfl ht hv _ hc
        · have : bgE key ver m = 15 := by unfold bgE; rw [if_neg hall, if_pos ht]
          rw [this]; exact rbegin_t key ver m w h0 h1 h2 _ rfl ht
end Go.Proofs.Yteodafhgfcbdpaa
