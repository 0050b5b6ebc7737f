/- What a side does: 'agree', 'finish'. -/
import Derived.Test.YtoggmladiakblaaJd
namespace Go.Proofs.Ytoggmladiakblaa
open Go.RowKit

theorem heg40 : ∀ args w, (callFunc 40 args).run Try.prog w = .ok (.enter 40 args) w := fun _ _ => by kernel_rfl
theorem heg41 : ∀ args w, (callFunc 41 args).run Try.prog w = .ok (.enter 41 args) w := fun _ _ => by kernel_rfl
set_option maxRecDepth 100000 in
set_option maxHeartbeats 4000000 in
theorem agree_no (b : Nat) (c s m o k : Int) (h d : Bool) (x y z : Int) (W : World) (hc : Cs W b (jc c s m o k h d)) (ha : accB y = false) :
    Calls Try.prog 26 #[.pointer (some ⟨b, 0, none⟩), .agg (hc3 x y z)] W (ActPost b (jc c s m o k h d) 0 0 0 1 W) := by
  have HA := Lib.hid ha
  have HT := Lib.hid ((((Turned.refl hc).alc (.cells #[.pointer (some ⟨b, 0, none⟩)] 60)).alc (.cells (hc3 x y z) 25)).alc (.cells (hc3 0 0 0) 25))
  clear ha hc
  go_enter Try.func26, Try.ntmps26
  go_wp2_with fail
  refine (acc_any y _).mono ?_
  rintro e w1 ⟨rfl, rfl⟩
  rw [HA.out]
  go_wp2
  exact bodyPost_ret (v := .tuple #[.agg (hc3 0 0 0), .int .i64 1]) (by simp [results, Try.results26, go_sem]) rfl (ActPost.mk HT.out)
set_option maxRecDepth 100000 in
set_option maxHeartbeats 8000000 in
theorem agree_acc (b : Nat) (c s m o k : Int) (h d : Bool) (x y z : Int) (r : Bool) (W : World) (hc : Cs W b (jc c s m o k h d)) (ha : accB y = true) (hr : (z == prf c s m y h 1) = r) :
    Calls Try.prog 26 #[.pointer (some ⟨b, 0, none⟩), .agg (hc3 x y z)] W fun e w' => if r then ActPost b (jc c s m y (pw y s) h true) 3 0 (prf c s m y h 2) 0 W e w' else ActPost b (jc c s m y k h d) 0 0 0 17 W e w' := by
  have HA := Lib.hid ha
  have HRr := Lib.hid hr
  have HT := Lib.hid (((((Turned.refl hc).set 3 (by simp) (.int .i64 y) (vs' := jc c s m y k h d) rfl).alc (.cells #[.pointer (some ⟨b, 0, none⟩)] 60)).alc (.cells (hc3 x y z) 25)).alc (.cells (hc3 0 0 0) 25))
  have HP := Lib.hid (((Cs.new (W.setCell ⟨b, 3, none⟩ (.int .i64 y)) W.heap.size #[.pointer (some ⟨b, 0, none⟩)] 60 (by simp)).alloc (.cells (hc3 x y z) 25)).alloc (.cells (hc3 0 0 0) 25))
  have HH := Lib.hid ((Cs.new ((W.setCell ⟨b, 3, none⟩ (.int .i64 y)).alloc (.cells #[.pointer (some ⟨b, 0, none⟩)] 60)) (W.heap.size + 1) (hc3 x y z) 25 (by simp)).alloc (.cells (hc3 0 0 0) 25))
  have HR := Lib.hid (Cs.new (((W.setCell ⟨b, 3, none⟩ (.int .i64 y)).alloc (.cells #[.pointer (some ⟨b, 0, none⟩)] 60)).alloc (.cells (hc3 x y z) 25)) (W.heap.size + 1 + 1) (hc3 0 0 0) 25 (by simp))
  have hlt := hc.2.2
  have hlt1 : b < W.heap.size + 1 := by omega
  have hlt2 : b < W.heap.size + 1 + 1 := by omega
  have c3 := hc.c 3 rfl
  have f3 := hc.f 3 (by simp)
  have heg := heg40
  clear ha hc hr
  go_enter Try.func26, Try.ntmps26
  go_wp2_with fail
  refine (acc_any y _).mono ?_
  rintro e w1 ⟨rfl, rfl⟩
  rw [HA.out]
  go_wp2_with fail
  clear c3 f3 heg
  generalize (((W.setCell ⟨b, 3, none⟩ (.int .i64 y)).alloc (.cells #[.pointer (some ⟨b, 0, none⟩)] 60)).alloc (.cells (hc3 x y z) 25)).alloc (.cells (hc3 0 0 0) 25) = wq at *
  have hbq : b < wq.heap.size := HT.out.1.2.2
  have HK := Lib.hid (show ∀ w, Below wq.heap.size wq w → Calls Try.prog 40 #[.pointer (some ⟨W.heap.size + 1, 0, none⟩), .pointer (some ⟨W.heap.size, 0, none⟩)] w fun e w' => e = .returned (.bool r) ∧ Below w.heap.size w w' from fun w hw => chk1_any b _ _ c s m y k h d x y z r w (HT.out.1.step hw) (HH.out.step hw) (HP.out.step hw) HRr.out)
  cases r
  · refine (end_no 40 b _ _ _ heg40 HK.out).mono ?_
    rintro e w2 ⟨rfl, b2⟩
    have HT2 := Lib.hid (HT.out.below b2)
    have r0 : w2.cell? ⟨W.heap.size + 1 + 1, 0, none⟩ = some (.int .i64 0) := (HR.out.step b2).c 0 rfl
    have r1 : w2.cell? ⟨W.heap.size + 1 + 1, 1, none⟩ = some (.int .i64 0) := (HR.out.step b2).c 1 rfl
    have r2 : w2.cell? ⟨W.heap.size + 1 + 1, 2, none⟩ = some (.int .i64 0) := (HR.out.step b2).c 2 rfl
    have g0 := (HR.out.step b2).f 0 (by simp)
    have g1 := (HR.out.step b2).f 1 (by simp)
    have g2 := (HR.out.step b2).f 2 (by simp)
    clear b2
    go_wp2
    exact bodyPost_ret (v := .tuple #[.agg (hc3 0 0 0), .int .i64 17]) (by simp [results, Try.results26, go_sem, r0, r1, r2]) rfl (ActPost.mk (((HT2.out.res hlt (nr := W.heap.size + 1 + 1) (by omega) 0 _).res hlt (nr := W.heap.size + 1 + 1) (by omega) 1 _).res hlt (nr := W.heap.size + 1 + 1) (by omega) 2 _))
  · refine (end_yes 40 b c s m y k h d _ _ _ HT.out.1 heg40 HK.out).mono ?_
    rintro e w2 ⟨rfl, ht2⟩
    have HT2 := Lib.hid ht2
    have HP2 := Lib.hid (HT2.out.2.2 _ _ (by omega) HP.out)
    have HR2 := Lib.hid (HT2.out.2.2 _ _ (by omega) HR.out)
    have HW := Lib.hid (show Turned b (jc c s m y (pw y s) h true) W w2 from ⟨HT2.out.1, HT.out.2.1.trans HT2.out.2.1, fun n us hne hcs => HT2.out.2.2 n us hne (HT.out.2.2 n us hne hcs)⟩)
    have p0 : w2.cell? ⟨W.heap.size, 0, none⟩ = some (.pointer (some ⟨b, 0, none⟩)) := HP2.out.c 0 rfl
    clear ht2
    go_wp2_with fail
    refine (proof_any b c s m y (pw y s) h true 2 _ HT2.out.1).mono ?_
    rintro e w3 ⟨rfl, b3⟩
    have HT3 := Lib.hid (HW.out.below b3)
    have r0 : w3.cell? ⟨W.heap.size + 1 + 1, 0, none⟩ = some (.int .i64 0) := (HR2.out.step b3).c 0 rfl
    have r1 : w3.cell? ⟨W.heap.size + 1 + 1, 1, none⟩ = some (.int .i64 0) := (HR2.out.step b3).c 1 rfl
    have r2 : w3.cell? ⟨W.heap.size + 1 + 1, 2, none⟩ = some (.int .i64 0) := (HR2.out.step b3).c 2 rfl
    have g0 := (HR2.out.step b3).f 0 (by simp)
    have g1 := (HR2.out.step b3).f 1 (by simp)
    have g2 := (HR2.out.step b3).f 2 (by simp)
    clear b3 p0
    go_wp2
    exact bodyPost_ret (v := .tuple #[.agg (hc3 3 0 (prf c s m y h 2)), .int .i64 0]) (by simp [results, Try.results26, go_sem, r0, r1, r2]) rfl (ActPost.mk (((HT3.out.res hlt (nr := W.heap.size + 1 + 1) (by omega) 0 _).res hlt (nr := W.heap.size + 1 + 1) (by omega) 1 _).res hlt (nr := W.heap.size + 1 + 1) (by omega) 2 _))
set_option maxRecDepth 100000 in
set_option maxHeartbeats 4000000 in
theorem finish_any (b : Nat) (c s m o k : Int) (h d : Bool) (x y z : Int) (r : Bool) (W : World) (hc : Cs W b (jc c s m o k h d)) (hr : (z == prf c s m o h 2) = r) :
    Calls Try.prog 27 #[.pointer (some ⟨b, 0, none⟩), .agg (hc3 x y z)] W fun e w' => if r then e = .returned (.int .i64 0) ∧ Turned b (jc c s m o (pw o s) h true) W w' else e = .returned (.int .i64 17) ∧ Turned b (jc c s m o k h d) W w' := by
  have HRr := Lib.hid hr
  have HT := Lib.hid (((Turned.refl hc).alc (.cells #[.pointer (some ⟨b, 0, none⟩)] 60)).alc (.cells (hc3 x y z) 25))
  have HP := Lib.hid ((Cs.new W W.heap.size #[.pointer (some ⟨b, 0, none⟩)] 60 (by simp)).alloc (.cells (hc3 x y z) 25))
  have HH := Lib.hid (Cs.new (W.alloc (.cells #[.pointer (some ⟨b, 0, none⟩)] 60)) (W.heap.size + 1) (hc3 x y z) 25 (by simp))
  clear hc hr
  go_enter Try.func27, Try.ntmps27
  go_wp2_with fail
  generalize (W.alloc (.cells #[.pointer (some ⟨b, 0, none⟩)] 60)).alloc (.cells (hc3 x y z) 25) = wq at *
  have HK := Lib.hid (show ∀ w, Below wq.heap.size wq w → Calls Try.prog 41 #[.pointer (some ⟨W.heap.size + 1, 0, none⟩), .pointer (some ⟨W.heap.size, 0, none⟩)] w fun e w' => e = .returned (.bool r) ∧ Below w.heap.size w w' from fun w hw => chk2_any b _ _ c s m o k h d x y z r w (HT.out.1.step hw) (HH.out.step hw) (HP.out.step hw) HRr.out)
  cases r
  · refine (end_no 41 b _ _ _ heg41 HK.out).mono ?_
    rintro e w2 ⟨rfl, b2⟩
    have HT2 := Lib.hid (HT.out.below b2)
    clear b2
    go_wp2
    go_ret
    exact ⟨rfl, HT2.out⟩
  · refine (end_yes 41 b c s m o k h d _ _ _ HT.out.1 heg41 HK.out).mono ?_
    rintro e w2 ⟨rfl, ht2⟩
    have HW := Lib.hid (show Turned b (jc c s m o (pw o s) h true) W w2 from ⟨ht2.1, HT.out.2.1.trans ht2.2.1, fun n us hne hcs => ht2.2.2 n us hne (HT.out.2.2 n us hne hcs)⟩)
    clear ht2
    go_wp2
    go_ret
    exact ⟨rfl, HW.out⟩
end Go.Proofs.Ytoggmladiakblaa
