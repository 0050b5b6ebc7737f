/- What a side does: 'meet', 'agree', 'finish'. -/
import Derived.Test.YtoggmladiakblaaJc
import Derived.Deep.AppendLies
import Derived.Deep.RegionLaw
namespace Go.Proofs.Ytoggmladiakblaa
open Go.RowKit

theorem Turned.res {b : Nat} {vs : Array Value} {W w1 : World} {nr : Nat} (h : Turned b vs W w1) (hb : b < W.heap.size) (hn : W.heap.size ≤ nr) (j : Nat) (v : Value) : Turned b vs W (w1.setCell ⟨nr, j, none⟩ v) :=
  ⟨h.1.other (by omega) j v, h.2.1.setCell (p := ⟨nr, j, none⟩) (by show b ≤ nr; omega) v, fun n us hne hc => (h.2.2 n us hne hc).other (by have := hc.2.2; omega) j v⟩
/-- What 'meet' and 'agree' leave. -/
def ActPost (b : Nat) (vs : Array Value) (x y z er : Int) (W : World) (e : Ending) (w' : World) : Prop := e = .returned (.tuple #[.agg (hc3 x y z), .int .i64 er]) ∧ Turned b vs W w'
theorem ActPost.mk {b : Nat} {vs : Array Value} {x y z er : Int} {W w' : World} (h : Turned b vs W w') : ActPost b vs x y z er W (.returned (.tuple #[.agg (hc3 x y z), .int .i64 er])) w' := ⟨rfl, h⟩
theorem Turned.alc {b : Nat} {vs : Array Value} {W w1 : World} (h : Turned b vs W w1) (o : Obj) : Turned b vs W (w1.alloc o) := h.below (al _ _)
theorem Turned.dr {b : Nat} {vs : Array Value} {W w1 : World} (h : Turned b vs W w1) : Turned b vs W w1.drew := h.below (below_drew _ _)

set_option maxRecDepth 100000 in
set_option maxHeartbeats 4000000 in
theorem meet_no (b : Nat) (c s m o k : Int) (h d : Bool) (x y z : Int) (W : World) (hc : Cs W b (jc c s m o k h d)) (ha : accB y = false) :
    Calls Try.prog 25 #[.pointer (some ⟨b, 0, none⟩), .agg (hc3 x y z)] W (ActPost b (jc c s m o k h d) 0 0 0 1 W) := by
  have HA := Lib.hid ha
  have HT := Lib.hid (((Turned.refl hc).alc (.cells (hc3 x y z) 25)).alc (.cells (hc3 0 0 0) 25))
  have hlt := hc.2.2
  clear ha hc
  go_enter Try.func25, Try.ntmps25
  go_wp2_with fail
  refine (acc_any y _).mono ?_
  rintro e w1 ⟨rfl, rfl⟩
  rw [HA.out]
  go_wp2
  exact bodyPost_ret (v := .tuple #[.agg (hc3 0 0 0), .int .i64 1]) (by simp [results, Try.results25, go_sem]) rfl (ActPost.mk (by first | exact HT.out | exact (((HT.out.res hlt (by simp) _ _).res hlt (by simp) _ _).res hlt (by simp) _ _)))
set_option maxRecDepth 100000 in
set_option maxHeartbeats 4000000 in
theorem meet_yes (b : Nat) (c s m o k : Int) (h d : Bool) (x y z : Int) (W : World) (hc : Cs W b (jc c s m o k h d)) (ha : accB y = true) :
    Calls Try.prog 25 #[.pointer (some ⟨b, 0, none⟩), .agg (hc3 x y z)] W (ActPost b (jc c s m y k h d) 2 m (prf c s m y h 1) 0 W) := by
  have HA := Lib.hid ha
  have HT := Lib.hid ((((Turned.refl hc).set 3 (by simp) (.int .i64 y) (vs' := jc c s m y k h d) rfl).alc (.cells (hc3 x y z) 25)).alc (.cells (hc3 0 0 0) 25))
  have HR := Lib.hid (Cs.new ((W.setCell ⟨b, 3, none⟩ (.int .i64 y)).alloc (.cells (hc3 x y z) 25)) (W.heap.size + 1) (hc3 0 0 0) 25 (by simp))
  have hlt := hc.2.2
  have c3 := hc.c 3 rfl
  have f3 := hc.f 3 (by simp)
  clear ha hc
  go_enter Try.func25, Try.ntmps25
  go_wp2_with fail
  refine (acc_any y _).mono ?_
  rintro e w1 ⟨rfl, rfl⟩
  rw [HA.out]
  go_wp2_with fail
  have hlt1 : W.heap.size + 1 < (((W.setCell ⟨b, 3, none⟩ (.int .i64 y)).alloc (.cells (hc3 x y z) 25)).alloc (.cells (hc3 0 0 0) 25)).heap.size := by simp
  clear c3 f3
  generalize ((W.setCell ⟨b, 3, none⟩ (.int .i64 y)).alloc (.cells (hc3 x y z) 25)).alloc (.cells (hc3 0 0 0) 25) = wq at *
  have c2 : wq.cell? ⟨b, 2, none⟩ = some (.int .i64 m) := HT.out.1.c 2 rfl
  have hbq : b < wq.heap.size := HT.out.1.2.2
  have HC := Lib.hid (show ∀ w', Below wq.heap.size wq w' → Cs w' b (jc c s m y k h d) from fun w' hh => HT.out.1.step hh)
  go_region_law ((go_simp; go_at_call 38; refine (proof_any b c s m y k h d 1 _ (HC.out _ (below_drew _ _))).mono ?_; rintro e w2 ⟨rfl, b2⟩; have B2 := Lib.hid ((below_drew wq.heap.size wq).trans b2); have r0 : w2.cell? ⟨W.heap.size + 1, 0, none⟩ = some (.int .i64 0) := (HR.out.step B2.out).c 0 rfl; have r1 : w2.cell? ⟨W.heap.size + 1, 1, none⟩ = some (.int .i64 0) := (HR.out.step B2.out).c 1 rfl; have r2 : w2.cell? ⟨W.heap.size + 1, 2, none⟩ = some (.int .i64 0) := (HR.out.step B2.out).c 2 rfl; have g0 := (HR.out.step B2.out).f 0 (by simp); have g1 := (HR.out.step B2.out).f 1 (by simp); have g2 := (HR.out.step B2.out).f 2 (by simp); have k2 : w2.cell? ⟨b, 2, none⟩ = some (.int .i64 m) := (HC.out _ B2.out).c 2 rfl; clear b2))
  all_goals go_wp2
  all_goals exact bodyPost_ret (v := .tuple #[.agg (hc3 2 m (prf c s m y h 1)), .int .i64 0]) (by simp [results, Try.results25, go_sem, r0, r1, r2]) rfl (ActPost.mk ((((HT.out.below B2.out).res hlt (by simp) _ _).res hlt (by simp) _ _).res hlt (by simp) _ _))
end Go.Proofs.Ytoggmladiakblaa
