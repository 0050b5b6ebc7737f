/- What a side does: 'end', 'meet', 'agree', 'finish'. -/
import Derived.Test.YtoggmladiakblaaJb
import Derived.Test.YtoggmladiakblaaBb
namespace Go.Proofs.Ytoggmladiakblaa
open Go.RowKit

/-- A block has got other cells; all below is as it was, and every other block. -/
def Turned (b : Nat) (vs : Array Value) (w w' : World) : Prop := Cs w' b vs ∧ Below b w w' ∧ ∀ n us, n ≠ b → Cs w n us → Cs w' n us
theorem Turned.set {b : Nat} {vs vs' : Array Value} {w w1 : World} (h : Turned b vs w w1) (j : Nat) (hj : j < vs.size) (v : Value) (hv : vs.setIfInBounds j v = vs') : Turned b vs' w (w1.setCell ⟨b, j, none⟩ v) :=
  ⟨h.1.set j hj v hv, h.2.1.setCell (p := ⟨b, j, none⟩) (Nat.le_refl _) v, fun n us hne hc => (h.2.2 n us hne hc).other hne j v⟩
theorem Turned.below {b : Nat} {vs : Array Value} {w w1 w2 : World} (h : Turned b vs w w1) (hb : Below w1.heap.size w1 w2) : Turned b vs w w2 :=
  ⟨h.1.step hb, h.2.1.trans (hb.mono (Nat.le_of_lt h.1.2.2)), fun n us hne hc => (h.2.2 n us hne hc).step hb⟩
theorem Turned.refl {b : Nat} {vs : Array Value} {w : World} (h : Cs w b vs) : Turned b vs w w := ⟨h, Below.refl _ _, fun _ _ _ hc => hc⟩
theorem Turned.first {b : Nat} {vs : Array Value} {w w1 w2 : World} (hb : Below w.heap.size w w1) (h : Turned b vs w1 w2) (hlt : b < w.heap.size) : Turned b vs w w2 :=
  ⟨h.1, (hb.mono (Nat.le_of_lt hlt)).trans h.2.1, fun n us hne hc => h.2.2 n us hne (hc.step hb)⟩

set_option maxRecDepth 100000 in
set_option maxHeartbeats 1000000 in
theorem end_no (n b : Nat) (q1 q2 : Value) (W : World) (heg : ∀ args w, (callFunc n args).run Try.prog w = .ok (.enter n args) w)
    (H : ∀ w, Below W.heap.size W w → Calls Try.prog n #[q1, q2] w fun e w' => e = .returned (.bool false) ∧ Below w.heap.size w w') :
    Calls Try.prog 39 #[.pointer (some ⟨b, 0, none⟩), .func (.func n) #[] #[q1, q2]] W fun e w' => e = .returned (.int .i64 17) ∧ Below W.heap.size W w' := by
  have HH := Lib.hid H
  clear H
  go_enter Try.func39, Try.ntmps39
  go_wp2_with fail
  refine (HH.out _ (Below.refl _ _)).mono ?_
  rintro e w1 ⟨rfl, b1⟩
  go_wp2
  go_ret
  exact ⟨rfl, b1⟩
set_option maxRecDepth 100000 in
set_option maxHeartbeats 1000000 in
theorem end_yes (n b : Nat) (c s m o k : Int) (h d : Bool) (q1 q2 : Value) (W : World) (hc : Cs W b (jc c s m o k h d)) (heg : ∀ args w, (callFunc n args).run Try.prog w = .ok (.enter n args) w)
    (H : ∀ w, Below W.heap.size W w → Calls Try.prog n #[q1, q2] w fun e w' => e = .returned (.bool true) ∧ Below w.heap.size w w') :
    Calls Try.prog 39 #[.pointer (some ⟨b, 0, none⟩), .func (.func n) #[] #[q1, q2]] W fun e w' => e = .returned (.int .i64 0) ∧ Turned b (jc c s m o (pw o s) h true) W w' := by
  have HH := Lib.hid H
  have HC := Lib.hid hc
  clear H hc
  go_enter Try.func39, Try.ntmps39
  go_wp2_with fail
  refine (HH.out _ (Below.refl _ _)).mono ?_
  rintro e w1 ⟨rfl, b1⟩
  have HC1 := Lib.hid (HC.out.step b1)
  have HB1 := Lib.hid b1
  clear b1
  go_wp2_with fail
  refine (key_b b c s m o k h d _ HC1.out).mono ?_
  rintro e w2 ⟨rfl, b2⟩
  have HT := Lib.hid (Turned.first (keep2 b2 HB1.out) (Turned.refl (HC1.out.step b2)) HC.out.2.2)
  have c4 := (HC1.out.step b2).c 4 rfl
  have c6 := (HC1.out.step b2).c 6 rfl
  have f4 := (HC1.out.step b2).f 4 (by simp)
  have f6 := (HC1.out.step b2).f 6 (by simp)
  clear b2
  go_wp2
  go_ret
  exact ⟨rfl, (HT.out.set 4 (by simp) _ (vs' := jc c s m o (pw o s) h d) rfl).set 6 (by simp) _ rfl⟩
/-- The closures that check a proof. -/
theorem one_box {w : World} {n : Nat} {v : Value} (h : Cs w n #[v]) : w.cell? ⟨n, 0, none⟩ = some v := h.c 0 rfl
set_option maxRecDepth 100000 in
set_option maxHeartbeats 2000000 in
theorem chk1_any (b n1 n2 : Nat) (c s m o k : Int) (h d : Bool) (x y z : Int) (r : Bool) (w : World) (hc : Cs w b (jc c s m o k h d)) (h1 : Cs w n1 (hc3 x y z)) (h2 : Cs w n2 #[.pointer (some ⟨b, 0, none⟩)]) (hr : (z == prf c s m o h 1) = r) :
    Calls Try.prog 40 #[.pointer (some ⟨n1, 0, none⟩), .pointer (some ⟨n2, 0, none⟩)] w fun e w' => e = .returned (.bool r) ∧ Below w.heap.size w w' := by
  have HC := Lib.hid hc
  have d1 := h1.c 2 rfl
  have d2 := h2.c 0 rfl
  have HR := Lib.hid hr
  clear hc h1 h2 hr
  go_enter Try.func40, Try.ntmps40
  go_wp2_with fail
  have hS : (fun w' : World => Below w.heap.size w w' ∧ w'.cell? ⟨n1, 2, none⟩ = some (.int .i64 z) ∧ w'.cell? ⟨n2, 0, none⟩ = some (.pointer (some ⟨b, 0, none⟩))) w.drew := ⟨below_drew _ _, d1, d2⟩
  go_region_held3 (fun w' => Below w.heap.size w w' ∧ w'.cell? ⟨n1, 2, none⟩ = some (.int .i64 z) ∧ w'.cell? ⟨n2, 0, none⟩ = some (.pointer (some ⟨b, 0, none⟩)))
    (first | (go_split_ands; refine ⟨?_, ?_, ?_⟩ <;> first | assumption | exact keep1 hbq (by assumption) | exact keep2 hbq (by assumption)) | go_keep)
    (first | (go_at_call 38; refine (proof_any b c s m o k h d 1 _ (HC.out.step (by first | assumption | exact And.left (by assumption)))).mono ?_; rintro e w' ⟨rfl, hbq⟩; rw [show prf c s m o h 1 = prf c s m o h 1 from rfl]))
  have hS9 : Below w.heap.size w w' := by first | assumption | exact And.left (by assumption)
  have HB9 := Lib.hid hS9
  clear hS9
  rw [HR.out]
  go_wp2
  go_ret
  exact ⟨rfl, HB9.out⟩
set_option maxRecDepth 100000 in
set_option maxHeartbeats 2000000 in
theorem chk2_any (b n1 n2 : Nat) (c s m o k : Int) (h d : Bool) (x y z : Int) (r : Bool) (w : World) (hc : Cs w b (jc c s m o k h d)) (h1 : Cs w n1 (hc3 x y z)) (h2 : Cs w n2 #[.pointer (some ⟨b, 0, none⟩)]) (hr : (z == prf c s m o h 2) = r) :
    Calls Try.prog 41 #[.pointer (some ⟨n1, 0, none⟩), .pointer (some ⟨n2, 0, none⟩)] w fun e w' => e = .returned (.bool r) ∧ Below w.heap.size w w' := by
  have HC := Lib.hid hc
  have d1 := h1.c 2 rfl
  have d2 := h2.c 0 rfl
  have HR := Lib.hid hr
  clear hc h1 h2 hr
  go_enter Try.func41, Try.ntmps41
  go_wp2_with fail
  have hS : (fun w' : World => Below w.heap.size w w' ∧ w'.cell? ⟨n1, 2, none⟩ = some (.int .i64 z) ∧ w'.cell? ⟨n2, 0, none⟩ = some (.pointer (some ⟨b, 0, none⟩))) w.drew := ⟨below_drew _ _, d1, d2⟩
  go_region_held3 (fun w' => Below w.heap.size w w' ∧ w'.cell? ⟨n1, 2, none⟩ = some (.int .i64 z) ∧ w'.cell? ⟨n2, 0, none⟩ = some (.pointer (some ⟨b, 0, none⟩)))
    (first | (go_split_ands; refine ⟨?_, ?_, ?_⟩ <;> first | assumption | exact keep1 hbq (by assumption) | exact keep2 hbq (by assumption)) | go_keep)
    (first | (go_at_call 38; refine (proof_any b c s m o k h d 2 _ (HC.out.step (by first | assumption | exact And.left (by assumption)))).mono ?_; rintro e w' ⟨rfl, hbq⟩; rw [show prf c s m o h 2 = prf c s m o h 2 from rfl]))
  have hS9 : Below w.heap.size w w' := by first | assumption | exact And.left (by assumption)
  have HB9 := Lib.hid hS9
  clear hS9
  rw [HR.out]
  go_wp2
  go_ret
  exact ⟨rfl, HB9.out⟩
end Go.Proofs.Ytoggmladiakblaa
