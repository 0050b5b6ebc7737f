/- Delivery: 'Fresh' of values that are none, here and in the reference. -/
import Derived.Test.YtkamkkjijjkfdaaDm
namespace Go.Proofs.Ytkamkkjijjkfdaa
open Go.RowKit

set_option maxRecDepth 100000 in
set_option maxHeartbeats 8000000 in
theorem newrc_bad19 (v : Value) (l : List Int) (hv : vaB l = false) (w : World) (h : IntsAt w v l) :
    Calls Try.prog 19 #[v] w fun e w' => e = .returned (.agg #[.int .i64 0, .slice none 0 0, .int .i64 0, .slice none 0 0, .int .i64 0]) ∧ Below w.heap.size w w' := by
  have HR0 := Lib.hid (Cs.new w w.heap.size #[.int .i64 0, .slice none 0 0, .int .i64 0, .slice none 0 0, .int .i64 0] 30 rfl)
  have HB0 := Lib.hid (al w (.cells #[.int .i64 0, .slice none 0 0, .int .i64 0, .slice none 0 0, .int .i64 0] 30))
  have HV0 := Lib.hid (h.step HB0.out)
  have HV := Lib.hid hv
  clear h hv
  go_enter Try.func19, Try.ntmps19
  go_wp2_with fail
  refine (areValues_any v l _ HV0.out).mono ?_
  rintro e w1 ⟨rfl, b1⟩
  rw [HV.out]
  have HR1 := Lib.hid (HR0.out.step b1)
  have HB1 := Lib.hid (keep2 b1 HB0.out)
  clear b1 HR0 HB0 HV0
  have r0 := HR1.out.c 0 rfl
  have r1 := HR1.out.c 1 rfl
  have r2 := HR1.out.c 2 rfl
  have r3 := HR1.out.c 3 rfl
  have r4 := HR1.out.c 4 rfl
  have f0 := HR1.out.f 0 (by simp)
  have f1 := HR1.out.f 1 (by simp)
  have f2 := HR1.out.f 2 (by simp)
  have f3 := HR1.out.f 3 (by simp)
  have f4 := HR1.out.f 4 (by simp)
  have rz := HR1.out.2.2
  go_wp2_with fail
  refine (fun (h : ∀ V : World, Cs V w.heap.size #[.int .i64 0, .slice none 0 0, .int .i64 0, .slice none 0 0, .int .i64 0] → Below w.heap.size w V → bodyPost Try.prog Try.f19 _ Exit.ret _ V) => h _ (Cs.set (Cs.set (Cs.set (Cs.set (Cs.set (HR1.out) 0 (by simp) (.int .i64 0) (vs' := #[.int .i64 0, .slice none 0 0, .int .i64 0, .slice none 0 0, .int .i64 0]) rfl) 1 (by simp) (.slice none 0 0) (vs' := #[.int .i64 0, .slice none 0 0, .int .i64 0, .slice none 0 0, .int .i64 0]) rfl) 2 (by simp) (.int .i64 0) (vs' := #[.int .i64 0, .slice none 0 0, .int .i64 0, .slice none 0 0, .int .i64 0]) rfl) 3 (by simp) (.slice none 0 0) (vs' := #[.int .i64 0, .slice none 0 0, .int .i64 0, .slice none 0 0, .int .i64 0]) rfl) 4 (by simp) (.int .i64 0) (vs' := #[.int .i64 0, .slice none 0 0, .int .i64 0, .slice none 0 0, .int .i64 0]) rfl) ((((((HB1.out).setCell (p := ⟨w.heap.size, 0, none⟩) (Nat.le_refl _) _).setCell (p := ⟨w.heap.size, 1, none⟩) (Nat.le_refl _) _).setCell (p := ⟨w.heap.size, 2, none⟩) (Nat.le_refl _) _).setCell (p := ⟨w.heap.size, 3, none⟩) (Nat.le_refl _) _).setCell (p := ⟨w.heap.size, 4, none⟩) (Nat.le_refl _) _)) ?_
  intro V hC hW
  have k0 : V.cell? ⟨w.heap.size, 0, none⟩ = some (.int .i64 0) := hC.c 0 rfl
  have k1 : V.cell? ⟨w.heap.size, 1, none⟩ = some (.slice none 0 0) := hC.c 1 rfl
  have k2 : V.cell? ⟨w.heap.size, 2, none⟩ = some (.int .i64 0) := hC.c 2 rfl
  have k3 : V.cell? ⟨w.heap.size, 3, none⟩ = some (.slice none 0 0) := hC.c 3 rfl
  have k4 : V.cell? ⟨w.heap.size, 4, none⟩ = some (.int .i64 0) := hC.c 4 rfl
  exact bodyPost_ret (v := .agg #[.int .i64 0, .slice none 0 0, .int .i64 0, .slice none 0 0, .int .i64 0]) (by simp [results, Try.results19, go_sem, k0, k1, k2, k3, k4]) rfl ⟨rfl, hW⟩
set_option maxRecDepth 100000 in
set_option maxHeartbeats 8000000 in
theorem newrc_bad20 (v : Value) (l : List Int) (hv : vaB l = false) (w : World) (h : IntsAt w v l) :
    Calls Try.prog 20 #[v] w fun e w' => e = .returned (.agg #[.int .i64 0, .slice none 0 0, .int .i64 0, .slice none 0 0, .int .i64 0]) ∧ Below w.heap.size w w' := by
  have HR0 := Lib.hid (Cs.new w w.heap.size #[.int .i64 0, .slice none 0 0, .int .i64 0, .slice none 0 0, .int .i64 0] 30 rfl)
  have HB0 := Lib.hid (al w (.cells #[.int .i64 0, .slice none 0 0, .int .i64 0, .slice none 0 0, .int .i64 0] 30))
  have HV0 := Lib.hid (h.step HB0.out)
  have HV := Lib.hid hv
  clear h hv
  go_enter Try.func20, Try.ntmps20
  go_wp2_with fail
  refine (rvalues_any v l false HV.out _ HV0.out).mono ?_
  rintro e w1 ⟨rfl, hw1⟩
  rw [hw1] at HR0 HB0
  have HR1 := Lib.hid HR0.out
  have HB1 := Lib.hid HB0.out
  clear hw1 HR0 HB0 HV0
  have r0 := HR1.out.c 0 rfl
  have r1 := HR1.out.c 1 rfl
  have r2 := HR1.out.c 2 rfl
  have r3 := HR1.out.c 3 rfl
  have r4 := HR1.out.c 4 rfl
  have f0 := HR1.out.f 0 (by simp)
  have f1 := HR1.out.f 1 (by simp)
  have f2 := HR1.out.f 2 (by simp)
  have f3 := HR1.out.f 3 (by simp)
  have f4 := HR1.out.f 4 (by simp)
  have rz := HR1.out.2.2
  go_wp2_with fail
  refine (fun (h : ∀ V : World, Cs V w.heap.size #[.int .i64 0, .slice none 0 0, .int .i64 0, .slice none 0 0, .int .i64 0] → Below w.heap.size w V → bodyPost Try.prog Try.f20 _ Exit.ret _ V) => h _ (Cs.set (Cs.set (Cs.set (Cs.set (Cs.set (HR1.out) 0 (by simp) (.int .i64 0) (vs' := #[.int .i64 0, .slice none 0 0, .int .i64 0, .slice none 0 0, .int .i64 0]) rfl) 1 (by simp) (.slice none 0 0) (vs' := #[.int .i64 0, .slice none 0 0, .int .i64 0, .slice none 0 0, .int .i64 0]) rfl) 2 (by simp) (.int .i64 0) (vs' := #[.int .i64 0, .slice none 0 0, .int .i64 0, .slice none 0 0, .int .i64 0]) rfl) 3 (by simp) (.slice none 0 0) (vs' := #[.int .i64 0, .slice none 0 0, .int .i64 0, .slice none 0 0, .int .i64 0]) rfl) 4 (by simp) (.int .i64 0) (vs' := #[.int .i64 0, .slice none 0 0, .int .i64 0, .slice none 0 0, .int .i64 0]) rfl) ((((((HB1.out).setCell (p := ⟨w.heap.size, 0, none⟩) (Nat.le_refl _) _).setCell (p := ⟨w.heap.size, 1, none⟩) (Nat.le_refl _) _).setCell (p := ⟨w.heap.size, 2, none⟩) (Nat.le_refl _) _).setCell (p := ⟨w.heap.size, 3, none⟩) (Nat.le_refl _) _).setCell (p := ⟨w.heap.size, 4, none⟩) (Nat.le_refl _) _)) ?_
  intro V hC hW
  have k0 : V.cell? ⟨w.heap.size, 0, none⟩ = some (.int .i64 0) := hC.c 0 rfl
  have k1 : V.cell? ⟨w.heap.size, 1, none⟩ = some (.slice none 0 0) := hC.c 1 rfl
  have k2 : V.cell? ⟨w.heap.size, 2, none⟩ = some (.int .i64 0) := hC.c 2 rfl
  have k3 : V.cell? ⟨w.heap.size, 3, none⟩ = some (.slice none 0 0) := hC.c 3 rfl
  have k4 : V.cell? ⟨w.heap.size, 4, none⟩ = some (.int .i64 0) := hC.c 4 rfl
  exact bodyPost_ret (v := .agg #[.int .i64 0, .slice none 0 0, .int .i64 0, .slice none 0 0, .int .i64 0]) (by simp [results, Try.results20, go_sem, k0, k1, k2, k3, k4]) rfl ⟨rfl, hW⟩
end Go.Proofs.Ytkamkkjijjkfdaa
