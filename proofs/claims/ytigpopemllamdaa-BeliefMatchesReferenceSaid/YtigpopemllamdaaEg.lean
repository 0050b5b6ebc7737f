/- Beliefs, the reference: 'Sent'. -/
import Derived.Test.YtigpopemllamdaaEf
namespace Go.Proofs.Ytigpopemllamdaa
open Go.RowKit

set_option maxRecDepth 100000 in
set_option maxHeartbeats 8000000 in
theorem rsent_no (va : Option Addr) (vc : Nat) (V : List Int) (sa : Option Addr) (sc : Nat) (L : List Od) (o : Od) (w : World) (h : Rb V L va vc sa sc w) (h9 : L.length ≤ 300) (h8 : V.length ≤ 300) (hw : isW V L = false) :
    Calls Try.prog 12 #[.agg #[.slice va V.length vc, .slice sa L.length sc], .agg #[.int .i64 o.a, .int .i64 o.b, .int .i64 o.c, .int .i64 o.d]] w (fun e w' => e = .returned (.tuple #[.agg #[.slice none 0 0, .slice none 0 0], .int .i64 1]) ∧ Below w.heap.size w w') := by
  have HWW := Lib.hid hw
  have HLn := Lib.hid h9
  have HVn := Lib.hid h8
  clear h9 h8
  have H0 := Lib.hid (Below.refl w.heap.size w)
  have H1 := Lib.hid (h)
  clear h
  have H2 := Lib.hid (H1.out.step (al w (.cells #[.slice va V.length vc, .slice sa L.length sc] 25)))
  clear H1
  have H3 := Lib.hid (keep2 (al w (.cells #[.slice va V.length vc, .slice sa L.length sc] 25)) H0.out)
  clear H0
  have H4 := Lib.hid (Cs.new w (w.heap.size) #[.slice va V.length vc, .slice sa L.length sc] 25 (by simp))
  have H5 := Lib.hid (H2.out.step (al (w.alloc (.cells #[.slice va V.length vc, .slice sa L.length sc] 25)) (.cells #[.int .i64 o.a, .int .i64 o.b, .int .i64 o.c, .int .i64 o.d] 27)))
  clear H2
  have H6 := Lib.hid (H4.out.step (al (w.alloc (.cells #[.slice va V.length vc, .slice sa L.length sc] 25)) (.cells #[.int .i64 o.a, .int .i64 o.b, .int .i64 o.c, .int .i64 o.d] 27)))
  clear H4
  have H7 := Lib.hid (keep2 (al (w.alloc (.cells #[.slice va V.length vc, .slice sa L.length sc] 25)) (.cells #[.int .i64 o.a, .int .i64 o.b, .int .i64 o.c, .int .i64 o.d] 27)) H3.out)
  clear H3
  have H8 := Lib.hid (Cs.new (w.alloc (.cells #[.slice va V.length vc, .slice sa L.length sc] 25)) (w.heap.size + 1) #[.int .i64 o.a, .int .i64 o.b, .int .i64 o.c, .int .i64 o.d] 27 (by simp))
  have H9 := Lib.hid (H5.out.step (al ((w.alloc (.cells #[.slice va V.length vc, .slice sa L.length sc] 25)).alloc (.cells #[.int .i64 o.a, .int .i64 o.b, .int .i64 o.c, .int .i64 o.d] 27)) (.cells #[.slice none 0 0, .slice none 0 0] 25)))
  clear H5
  have H10 := Lib.hid (H6.out.step (al ((w.alloc (.cells #[.slice va V.length vc, .slice sa L.length sc] 25)).alloc (.cells #[.int .i64 o.a, .int .i64 o.b, .int .i64 o.c, .int .i64 o.d] 27)) (.cells #[.slice none 0 0, .slice none 0 0] 25)))
  clear H6
  have H11 := Lib.hid (H8.out.step (al ((w.alloc (.cells #[.slice va V.length vc, .slice sa L.length sc] 25)).alloc (.cells #[.int .i64 o.a, .int .i64 o.b, .int .i64 o.c, .int .i64 o.d] 27)) (.cells #[.slice none 0 0, .slice none 0 0] 25)))
  clear H8
  have H12 := Lib.hid (keep2 (al ((w.alloc (.cells #[.slice va V.length vc, .slice sa L.length sc] 25)).alloc (.cells #[.int .i64 o.a, .int .i64 o.b, .int .i64 o.c, .int .i64 o.d] 27)) (.cells #[.slice none 0 0, .slice none 0 0] 25)) H7.out)
  clear H7
  have H13 := Lib.hid (Cs.new ((w.alloc (.cells #[.slice va V.length vc, .slice sa L.length sc] 25)).alloc (.cells #[.int .i64 o.a, .int .i64 o.b, .int .i64 o.c, .int .i64 o.d] 27)) (w.heap.size + 1 + 1) #[.slice none 0 0, .slice none 0 0] 25 (by simp))
  have H14 := Lib.hid (by have g := BoxN.new ((w.alloc (.cells #[.slice va V.length vc, .slice sa L.length sc] 25)).alloc (.cells #[.int .i64 o.a, .int .i64 o.b, .int .i64 o.c, .int .i64 o.d] 27)) #[.slice none 0 0, .slice none 0 0] 25; rw [show ((w.alloc (.cells #[.slice va V.length vc, .slice sa L.length sc] 25)).alloc (.cells #[.int .i64 o.a, .int .i64 o.b, .int .i64 o.c, .int .i64 o.d] 27)).heap.size = w.heap.size + 1 + 1 by simp] at g; exact g)
  go_enter Try.func12, Try.ntmps12
  have xb0 : (((w.alloc (.cells #[.slice va V.length vc, .slice sa L.length sc] 25)).alloc (.cells #[.int .i64 o.a, .int .i64 o.b, .int .i64 o.c, .int .i64 o.d] 27)).alloc (.cells #[.slice none 0 0, .slice none 0 0] 25)).cell? ⟨(w.heap.size), 0, none⟩ = some (.slice va V.length vc) := H10.out.c 0 rfl
  have xb1 : (((w.alloc (.cells #[.slice va V.length vc, .slice sa L.length sc] 25)).alloc (.cells #[.int .i64 o.a, .int .i64 o.b, .int .i64 o.c, .int .i64 o.d] 27)).alloc (.cells #[.slice none 0 0, .slice none 0 0] 25)).cell? ⟨(w.heap.size), 1, none⟩ = some (.slice sa L.length sc) := H10.out.c 1 rfl
  have zb : (w.heap.size) < (((w.alloc (.cells #[.slice va V.length vc, .slice sa L.length sc] 25)).alloc (.cells #[.int .i64 o.a, .int .i64 o.b, .int .i64 o.c, .int .i64 o.d] 27)).alloc (.cells #[.slice none 0 0, .slice none 0 0] 25)).heap.size := H10.out.2.2
  go_wp2_with fail
  refine (validR_any va vc V sa sc L _ H9.out (by have := HLn.out; unfold maxLen; omega) (by have := HVn.out; unfold maxLen; omega)).mono ?_
  rintro e u1 ⟨rfl, b1⟩
  clear xb0 xb1 zb
  have H15 := Lib.hid (H9.out.step b1)
  clear H9
  have H16 := Lib.hid (H10.out.step b1)
  clear H10
  have H17 := Lib.hid (H11.out.step b1)
  clear H11
  have H18 := Lib.hid (H13.out.step b1)
  clear H13
  have H19 := Lib.hid (H14.out.step b1)
  clear H14
  have H20 := Lib.hid (keep2 b1 H12.out)
  clear H12
  clear b1
  rw [HWW.out]
  have xz0 : u1.cell? ⟨(w.heap.size + 1 + 1), 0, none⟩ = some (.slice none 0 0) := H18.out.c 0 rfl
  have xz1 : u1.cell? ⟨(w.heap.size + 1 + 1), 1, none⟩ = some (.slice none 0 0) := H18.out.c 1 rfl
  have zz : (w.heap.size + 1 + 1) < u1.heap.size := H18.out.2.2
  have fz0 : u1.frozen? ⟨(w.heap.size + 1 + 1), 0, none⟩ = false := H18.out.f 0 (by simp)
  have fz1 : u1.frozen? ⟨(w.heap.size + 1 + 1), 1, none⟩ = false := H18.out.f 1 (by simp)
  go_wp2
  refine (fun (h : ∀ X : World, Cs X (w.heap.size + 1 + 1) #[.slice none 0 0, .slice none 0 0] → Chg (w.heap.size + 1 + 1) u1 X → bodyPost Try.prog Try.f12 _ Exit.ret _ X) => h _ (Cs.set (Cs.set H18.out 0 (by simp) (.slice none 0 0) rfl) 1 (by simp) (.slice none 0 0) (vs' := #[.slice none 0 0, .slice none 0 0]) rfl) (((Chg.of (Below.refl _ u1)).set 0 _).set 1 _)) ?_
  intro X hC hB
  have k0 : X.cell? ⟨(w.heap.size + 1 + 1), 0, none⟩ = some (.slice none 0 0) := hC.c 0 rfl
  have k1 : X.cell? ⟨(w.heap.size + 1 + 1), 1, none⟩ = some (.slice none 0 0) := hC.c 1 rfl
  exact bodyPost_ret (v := .tuple #[.agg #[.slice none 0 0, .slice none 0 0], .int .i64 1]) (by simp [results, Try.results12, go_sem, k0, k1]) rfl (⟨rfl, H20.out.trans (hB.below (by omega) H20.out.size)⟩)
set_option maxRecDepth 100000 in
set_option maxHeartbeats 8000000 in
theorem rsent_i1 (va : Option Addr) (vc : Nat) (V : List Int) (sa : Option Addr) (sc : Nat) (L : List Od) (o : Od) (w : World) (h : Rb V L va vc sa sc w) (h9 : L.length ≤ 300) (h8 : V.length ≤ 300) (hw : isW V L = true) (hi0 : inr o.a 0 1000000000 = false) :
    Calls Try.prog 12 #[.agg #[.slice va V.length vc, .slice sa L.length sc], .agg #[.int .i64 o.a, .int .i64 o.b, .int .i64 o.c, .int .i64 o.d]] w (fun e w' => e = .returned (.tuple #[.agg #[.slice none 0 0, .slice none 0 0], .int .i64 1]) ∧ Below w.heap.size w w') := by
  have HWW := Lib.hid hw
  have HI0 := Lib.hid hi0
  clear hw hi0
  have HLn := Lib.hid h9
  have HVn := Lib.hid h8
  clear h9 h8
  have H0 := Lib.hid (Below.refl w.heap.size w)
  have H1 := Lib.hid (h)
  clear h
  have H2 := Lib.hid (H1.out.step (al w (.cells #[.slice va V.length vc, .slice sa L.length sc] 25)))
  clear H1
  have H3 := Lib.hid (keep2 (al w (.cells #[.slice va V.length vc, .slice sa L.length sc] 25)) H0.out)
  clear H0
  have H4 := Lib.hid (Cs.new w (w.heap.size) #[.slice va V.length vc, .slice sa L.length sc] 25 (by simp))
  have H5 := Lib.hid (H2.out.step (al (w.alloc (.cells #[.slice va V.length vc, .slice sa L.length sc] 25)) (.cells #[.int .i64 o.a, .int .i64 o.b, .int .i64 o.c, .int .i64 o.d] 27)))
  clear H2
  have H6 := Lib.hid (H4.out.step (al (w.alloc (.cells #[.slice va V.length vc, .slice sa L.length sc] 25)) (.cells #[.int .i64 o.a, .int .i64 o.b, .int .i64 o.c, .int .i64 o.d] 27)))
  clear H4
  have H7 := Lib.hid (keep2 (al (w.alloc (.cells #[.slice va V.length vc, .slice sa L.length sc] 25)) (.cells #[.int .i64 o.a, .int .i64 o.b, .int .i64 o.c, .int .i64 o.d] 27)) H3.out)
  clear H3
  have H8 := Lib.hid (Cs.new (w.alloc (.cells #[.slice va V.length vc, .slice sa L.length sc] 25)) (w.heap.size + 1) #[.int .i64 o.a, .int .i64 o.b, .int .i64 o.c, .int .i64 o.d] 27 (by simp))
  have H9 := Lib.hid (H5.out.step (al ((w.alloc (.cells #[.slice va V.length vc, .slice sa L.length sc] 25)).alloc (.cells #[.int .i64 o.a, .int .i64 o.b, .int .i64 o.c, .int .i64 o.d] 27)) (.cells #[.slice none 0 0, .slice none 0 0] 25)))
  clear H5
  have H10 := Lib.hid (H6.out.step (al ((w.alloc (.cells #[.slice va V.length vc, .slice sa L.length sc] 25)).alloc (.cells #[.int .i64 o.a, .int .i64 o.b, .int .i64 o.c, .int .i64 o.d] 27)) (.cells #[.slice none 0 0, .slice none 0 0] 25)))
  clear H6
  have H11 := Lib.hid (H8.out.step (al ((w.alloc (.cells #[.slice va V.length vc, .slice sa L.length sc] 25)).alloc (.cells #[.int .i64 o.a, .int .i64 o.b, .int .i64 o.c, .int .i64 o.d] 27)) (.cells #[.slice none 0 0, .slice none 0 0] 25)))
  clear H8
  have H12 := Lib.hid (keep2 (al ((w.alloc (.cells #[.slice va V.length vc, .slice sa L.length sc] 25)).alloc (.cells #[.int .i64 o.a, .int .i64 o.b, .int .i64 o.c, .int .i64 o.d] 27)) (.cells #[.slice none 0 0, .slice none 0 0] 25)) H7.out)
  clear H7
  have H13 := Lib.hid (Cs.new ((w.alloc (.cells #[.slice va V.length vc, .slice sa L.length sc] 25)).alloc (.cells #[.int .i64 o.a, .int .i64 o.b, .int .i64 o.c, .int .i64 o.d] 27)) (w.heap.size + 1 + 1) #[.slice none 0 0, .slice none 0 0] 25 (by simp))
  have H14 := Lib.hid (by have g := BoxN.new ((w.alloc (.cells #[.slice va V.length vc, .slice sa L.length sc] 25)).alloc (.cells #[.int .i64 o.a, .int .i64 o.b, .int .i64 o.c, .int .i64 o.d] 27)) #[.slice none 0 0, .slice none 0 0] 25; rw [show ((w.alloc (.cells #[.slice va V.length vc, .slice sa L.length sc] 25)).alloc (.cells #[.int .i64 o.a, .int .i64 o.b, .int .i64 o.c, .int .i64 o.d] 27)).heap.size = w.heap.size + 1 + 1 by simp] at g; exact g)
  go_enter Try.func12, Try.ntmps12
  have xb0 : (((w.alloc (.cells #[.slice va V.length vc, .slice sa L.length sc] 25)).alloc (.cells #[.int .i64 o.a, .int .i64 o.b, .int .i64 o.c, .int .i64 o.d] 27)).alloc (.cells #[.slice none 0 0, .slice none 0 0] 25)).cell? ⟨(w.heap.size), 0, none⟩ = some (.slice va V.length vc) := H10.out.c 0 rfl
  have xb1 : (((w.alloc (.cells #[.slice va V.length vc, .slice sa L.length sc] 25)).alloc (.cells #[.int .i64 o.a, .int .i64 o.b, .int .i64 o.c, .int .i64 o.d] 27)).alloc (.cells #[.slice none 0 0, .slice none 0 0] 25)).cell? ⟨(w.heap.size), 1, none⟩ = some (.slice sa L.length sc) := H10.out.c 1 rfl
  have zb : (w.heap.size) < (((w.alloc (.cells #[.slice va V.length vc, .slice sa L.length sc] 25)).alloc (.cells #[.int .i64 o.a, .int .i64 o.b, .int .i64 o.c, .int .i64 o.d] 27)).alloc (.cells #[.slice none 0 0, .slice none 0 0] 25)).heap.size := H10.out.2.2
  go_wp2_with fail
  refine (validR_any va vc V sa sc L _ H9.out (by have := HLn.out; unfold maxLen; omega) (by have := HVn.out; unfold maxLen; omega)).mono ?_
  rintro e u1 ⟨rfl, b1⟩
  clear xb0 xb1 zb
  have H15 := Lib.hid (H9.out.step b1)
  clear H9
  have H16 := Lib.hid (H10.out.step b1)
  clear H10
  have H17 := Lib.hid (H11.out.step b1)
  clear H11
  have H18 := Lib.hid (H13.out.step b1)
  clear H13
  have H19 := Lib.hid (H14.out.step b1)
  clear H14
  have H20 := Lib.hid (keep2 b1 H12.out)
  clear H12
  clear b1
  rw [HWW.out]
  have xo0 : u1.cell? ⟨(w.heap.size + 1), 0, none⟩ = some (.int .i64 o.a) := H17.out.c 0 rfl
  have xo1 : u1.cell? ⟨(w.heap.size + 1), 1, none⟩ = some (.int .i64 o.b) := H17.out.c 1 rfl
  have xo2 : u1.cell? ⟨(w.heap.size + 1), 2, none⟩ = some (.int .i64 o.c) := H17.out.c 2 rfl
  have xo3 : u1.cell? ⟨(w.heap.size + 1), 3, none⟩ = some (.int .i64 o.d) := H17.out.c 3 rfl
  have zo : (w.heap.size + 1) < u1.heap.size := H17.out.2.2
  go_wp2_with fail
  refine (between_any 0 o.a 1000000000 _).mono ?_
  rintro e u2 ⟨rfl, b2⟩
  clear xo0 xo1 xo2 xo3 zo
  have H21 := Lib.hid (H15.out.step b2)
  clear H15
  have H22 := Lib.hid (H16.out.step b2)
  clear H16
  have H23 := Lib.hid (H17.out.step b2)
  clear H17
  have H24 := Lib.hid (H18.out.step b2)
  clear H18
  have H25 := Lib.hid (H19.out.step b2)
  clear H19
  have H26 := Lib.hid (keep2 b2 H20.out)
  clear H20
  clear b2
  rw [HI0.out]
  have xz0 : u2.cell? ⟨(w.heap.size + 1 + 1), 0, none⟩ = some (.slice none 0 0) := H24.out.c 0 rfl
  have xz1 : u2.cell? ⟨(w.heap.size + 1 + 1), 1, none⟩ = some (.slice none 0 0) := H24.out.c 1 rfl
  have zz : (w.heap.size + 1 + 1) < u2.heap.size := H24.out.2.2
  have fz0 : u2.frozen? ⟨(w.heap.size + 1 + 1), 0, none⟩ = false := H24.out.f 0 (by simp)
  have fz1 : u2.frozen? ⟨(w.heap.size + 1 + 1), 1, none⟩ = false := H24.out.f 1 (by simp)
  go_wp2
  refine (fun (h : ∀ X : World, Cs X (w.heap.size + 1 + 1) #[.slice none 0 0, .slice none 0 0] → Chg (w.heap.size + 1 + 1) u2 X → bodyPost Try.prog Try.f12 _ Exit.ret _ X) => h _ (Cs.set (Cs.set H24.out 0 (by simp) (.slice none 0 0) rfl) 1 (by simp) (.slice none 0 0) (vs' := #[.slice none 0 0, .slice none 0 0]) rfl) (((Chg.of (Below.refl _ u2)).set 0 _).set 1 _)) ?_
  intro X hC hB
  have k0 : X.cell? ⟨(w.heap.size + 1 + 1), 0, none⟩ = some (.slice none 0 0) := hC.c 0 rfl
  have k1 : X.cell? ⟨(w.heap.size + 1 + 1), 1, none⟩ = some (.slice none 0 0) := hC.c 1 rfl
  exact bodyPost_ret (v := .tuple #[.agg #[.slice none 0 0, .slice none 0 0], .int .i64 1]) (by simp [results, Try.results12, go_sem, k0, k1]) rfl (⟨rfl, H26.out.trans (hB.below (by omega) H26.out.size)⟩)
set_option maxRecDepth 100000 in
set_option maxHeartbeats 8000000 in
theorem rsent_i2 (va : Option Addr) (vc : Nat) (V : List Int) (sa : Option Addr) (sc : Nat) (L : List Od) (o : Od) (w : World) (h : Rb V L va vc sa sc w) (h9 : L.length ≤ 300) (h8 : V.length ≤ 300) (hw : isW V L = true) (hi0 : inr o.a 0 1000000000 = true) (hi1 : inr o.b 0 1000000000 = false) :
    Calls Try.prog 12 #[.agg #[.slice va V.length vc, .slice sa L.length sc], .agg #[.int .i64 o.a, .int .i64 o.b, .int .i64 o.c, .int .i64 o.d]] w (fun e w' => e = .returned (.tuple #[.agg #[.slice none 0 0, .slice none 0 0], .int .i64 1]) ∧ Below w.heap.size w w') := by
  have HWW := Lib.hid hw
  have HI0 := Lib.hid hi0
  have HI1 := Lib.hid hi1
  clear hw hi0 hi1
  have HLn := Lib.hid h9
  have HVn := Lib.hid h8
  clear h9 h8
  have H0 := Lib.hid (Below.refl w.heap.size w)
  have H1 := Lib.hid (h)
  clear h
  have H2 := Lib.hid (H1.out.step (al w (.cells #[.slice va V.length vc, .slice sa L.length sc] 25)))
  clear H1
  have H3 := Lib.hid (keep2 (al w (.cells #[.slice va V.length vc, .slice sa L.length sc] 25)) H0.out)
  clear H0
  have H4 := Lib.hid (Cs.new w (w.heap.size) #[.slice va V.length vc, .slice sa L.length sc] 25 (by simp))
  have H5 := Lib.hid (H2.out.step (al (w.alloc (.cells #[.slice va V.length vc, .slice sa L.length sc] 25)) (.cells #[.int .i64 o.a, .int .i64 o.b, .int .i64 o.c, .int .i64 o.d] 27)))
  clear H2
  have H6 := Lib.hid (H4.out.step (al (w.alloc (.cells #[.slice va V.length vc, .slice sa L.length sc] 25)) (.cells #[.int .i64 o.a, .int .i64 o.b, .int .i64 o.c, .int .i64 o.d] 27)))
  clear H4
  have H7 := Lib.hid (keep2 (al (w.alloc (.cells #[.slice va V.length vc, .slice sa L.length sc] 25)) (.cells #[.int .i64 o.a, .int .i64 o.b, .int .i64 o.c, .int .i64 o.d] 27)) H3.out)
  clear H3
  have H8 := Lib.hid (Cs.new (w.alloc (.cells #[.slice va V.length vc, .slice sa L.length sc] 25)) (w.heap.size + 1) #[.int .i64 o.a, .int .i64 o.b, .int .i64 o.c, .int .i64 o.d] 27 (by simp))
  have H9 := Lib.hid (H5.out.step (al ((w.alloc (.cells #[.slice va V.length vc, .slice sa L.length sc] 25)).alloc (.cells #[.int .i64 o.a, .int .i64 o.b, .int .i64 o.c, .int .i64 o.d] 27)) (.cells #[.slice none 0 0, .slice none 0 0] 25)))
  clear H5
  have H10 := Lib.hid (H6.out.step (al ((w.alloc (.cells #[.slice va V.length vc, .slice sa L.length sc] 25)).alloc (.cells #[.int .i64 o.a, .int .i64 o.b, .int .i64 o.c, .int .i64 o.d] 27)) (.cells #[.slice none 0 0, .slice none 0 0] 25)))
  clear H6
  have H11 := Lib.hid (H8.out.step (al ((w.alloc (.cells #[.slice va V.length vc, .slice sa L.length sc] 25)).alloc (.cells #[.int .i64 o.a, .int .i64 o.b, .int .i64 o.c, .int .i64 o.d] 27)) (.cells #[.slice none 0 0, .slice none 0 0] 25)))
  clear H8
  have H12 := Lib.hid (keep2 (al ((w.alloc (.cells #[.slice va V.length vc, .slice sa L.length sc] 25)).alloc (.cells #[.int .i64 o.a, .int .i64 o.b, .int .i64 o.c, .int .i64 o.d] 27)) (.cells #[.slice none 0 0, .slice none 0 0] 25)) H7.out)
  clear H7
  have H13 := Lib.hid (Cs.new ((w.alloc (.cells #[.slice va V.length vc, .slice sa L.length sc] 25)).alloc (.cells #[.int .i64 o.a, .int .i64 o.b, .int .i64 o.c, .int .i64 o.d] 27)) (w.heap.size + 1 + 1) #[.slice none 0 0, .slice none 0 0] 25 (by simp))
  have H14 := Lib.hid (by have g := BoxN.new ((w.alloc (.cells #[.slice va V.length vc, .slice sa L.length sc] 25)).alloc (.cells #[.int .i64 o.a, .int .i64 o.b, .int .i64 o.c, .int .i64 o.d] 27)) #[.slice none 0 0, .slice none 0 0] 25; rw [show ((w.alloc (.cells #[.slice va V.length vc, .slice sa L.length sc] 25)).alloc (.cells #[.int .i64 o.a, .int .i64 o.b, .int .i64 o.c, .int .i64 o.d] 27)).heap.size = w.heap.size + 1 + 1 by simp] at g; exact g)
  go_enter Try.func12, Try.ntmps12
  have xb0 : (((w.alloc (.cells #[.slice va V.length vc, .slice sa L.length sc] 25)).alloc (.cells #[.int .i64 o.a, .int .i64 o.b, .int .i64 o.c, .int .i64 o.d] 27)).alloc (.cells #[.slice none 0 0, .slice none 0 0] 25)).cell? ⟨(w.heap.size), 0, none⟩ = some (.slice va V.length vc) := H10.out.c 0 rfl
  have xb1 : (((w.alloc (.cells #[.slice va V.length vc, .slice sa L.length sc] 25)).alloc (.cells #[.int .i64 o.a, .int .i64 o.b, .int .i64 o.c, .int .i64 o.d] 27)).alloc (.cells #[.slice none 0 0, .slice none 0 0] 25)).cell? ⟨(w.heap.size), 1, none⟩ = some (.slice sa L.length sc) := H10.out.c 1 rfl
  have zb : (w.heap.size) < (((w.alloc (.cells #[.slice va V.length vc, .slice sa L.length sc] 25)).alloc (.cells #[.int .i64 o.a, .int .i64 o.b, .int .i64 o.c, .int .i64 o.d] 27)).alloc (.cells #[.slice none 0 0, .slice none 0 0] 25)).heap.size := H10.out.2.2
  go_wp2_with fail
  refine (validR_any va vc V sa sc L _ H9.out (by have := HLn.out; unfold maxLen; omega) (by have := HVn.out; unfold maxLen; omega)).mono ?_
  rintro e u1 ⟨rfl, b1⟩
  clear xb0 xb1 zb
  have H15 := Lib.hid (H9.out.step b1)
  clear H9
  have H16 := Lib.hid (H10.out.step b1)
  clear H10
  have H17 := Lib.hid (H11.out.step b1)
  clear H11
  have H18 := Lib.hid (H13.out.step b1)
  clear H13
  have H19 := Lib.hid (H14.out.step b1)
  clear H14
  have H20 := Lib.hid (keep2 b1 H12.out)
  clear H12
  clear b1
  rw [HWW.out]
  have xo0 : u1.cell? ⟨(w.heap.size + 1), 0, none⟩ = some (.int .i64 o.a) := H17.out.c 0 rfl
  have xo1 : u1.cell? ⟨(w.heap.size + 1), 1, none⟩ = some (.int .i64 o.b) := H17.out.c 1 rfl
  have xo2 : u1.cell? ⟨(w.heap.size + 1), 2, none⟩ = some (.int .i64 o.c) := H17.out.c 2 rfl
  have xo3 : u1.cell? ⟨(w.heap.size + 1), 3, none⟩ = some (.int .i64 o.d) := H17.out.c 3 rfl
  have zo : (w.heap.size + 1) < u1.heap.size := H17.out.2.2
  go_wp2_with fail
  refine (between_any 0 o.a 1000000000 _).mono ?_
  rintro e u2 ⟨rfl, b2⟩
  clear xo0 xo1 xo2 xo3 zo
  have H21 := Lib.hid (H15.out.step b2)
  clear H15
  have H22 := Lib.hid (H16.out.step b2)
  clear H16
  have H23 := Lib.hid (H17.out.step b2)
  clear H17
  have H24 := Lib.hid (H18.out.step b2)
  clear H18
  have H25 := Lib.hid (H19.out.step b2)
  clear H19
  have H26 := Lib.hid (keep2 b2 H20.out)
  clear H20
  clear b2
  rw [HI0.out]
  have xo0 : u2.cell? ⟨(w.heap.size + 1), 0, none⟩ = some (.int .i64 o.a) := H23.out.c 0 rfl
  have xo1 : u2.cell? ⟨(w.heap.size + 1), 1, none⟩ = some (.int .i64 o.b) := H23.out.c 1 rfl
  have xo2 : u2.cell? ⟨(w.heap.size + 1), 2, none⟩ = some (.int .i64 o.c) := H23.out.c 2 rfl
  have xo3 : u2.cell? ⟨(w.heap.size + 1), 3, none⟩ = some (.int .i64 o.d) := H23.out.c 3 rfl
  have zo : (w.heap.size + 1) < u2.heap.size := H23.out.2.2
  go_wp2_with fail
  refine (between_any 0 o.b 1000000000 _).mono ?_
  rintro e u3 ⟨rfl, b3⟩
  clear xo0 xo1 xo2 xo3 zo
  have H27 := Lib.hid (H21.out.step b3)
  clear H21
  have H28 := Lib.hid (H22.out.step b3)
  clear H22
  have H29 := Lib.hid (H23.out.step b3)
  clear H23
  have H30 := Lib.hid (H24.out.step b3)
  clear H24
  have H31 := Lib.hid (H25.out.step b3)
  clear H25
  have H32 := Lib.hid (keep2 b3 H26.out)
  clear H26
  clear b3
  rw [HI1.out]
  have xz0 : u3.cell? ⟨(w.heap.size + 1 + 1), 0, none⟩ = some (.slice none 0 0) := H30.out.c 0 rfl
  have xz1 : u3.cell? ⟨(w.heap.size + 1 + 1), 1, none⟩ = some (.slice none 0 0) := H30.out.c 1 rfl
  have zz : (w.heap.size + 1 + 1) < u3.heap.size := H30.out.2.2
  have fz0 : u3.frozen? ⟨(w.heap.size + 1 + 1), 0, none⟩ = false := H30.out.f 0 (by simp)
  have fz1 : u3.frozen? ⟨(w.heap.size + 1 + 1), 1, none⟩ = false := H30.out.f 1 (by simp)
  go_wp2
  refine (fun (h : ∀ X : World, Cs X (w.heap.size + 1 + 1) #[.slice none 0 0, .slice none 0 0] → Chg (w.heap.size + 1 + 1) u3 X → bodyPost Try.prog Try.f12 _ Exit.ret _ X) => h _ (Cs.set (Cs.set H30.out 0 (by simp) (.slice none 0 0) rfl) 1 (by simp) (.slice none 0 0) (vs' := #[.slice none 0 0, .slice none 0 0]) rfl) (((Chg.of (Below.refl _ u3)).set 0 _).set 1 _)) ?_
  intro X hC hB
  have k0 : X.cell? ⟨(w.heap.size + 1 + 1), 0, none⟩ = some (.slice none 0 0) := hC.c 0 rfl
  have k1 : X.cell? ⟨(w.heap.size + 1 + 1), 1, none⟩ = some (.slice none 0 0) := hC.c 1 rfl
  exact bodyPost_ret (v := .tuple #[.agg #[.slice none 0 0, .slice none 0 0], .int .i64 1]) (by simp [results, Try.results12, go_sem, k0, k1]) rfl (⟨rfl, H32.out.trans (hB.below (by omega) H32.out.size)⟩)
set_option maxRecDepth 100000 in
set_option maxHeartbeats 8000000 in
theorem rsent_i3 (va : Option Addr) (vc : Nat) (V : List Int) (sa : Option Addr) (sc : Nat) (L : List Od) (o : Od) (w : World) (h : Rb V L va vc sa sc w) (h9 : L.length ≤ 300) (h8 : V.length ≤ 300) (hw : isW V L = true) (hi0 : inr o.a 0 1000000000 = true) (hi1 : inr o.b 0 1000000000 = true) (hi2 : inr o.c 0 1000000000 = false) :
    Calls Try.prog 12 #[.agg #[.slice va V.length vc, .slice sa L.length sc], .agg #[.int .i64 o.a, .int .i64 o.b, .int .i64 o.c, .int .i64 o.d]] w (fun e w' => e = .returned (.tuple #[.agg #[.slice none 0 0, .slice none 0 0], .int .i64 1]) ∧ Below w.heap.size w w') := by
  have HWW := Lib.hid hw
  have HI0 := Lib.hid hi0
  have HI1 := Lib.hid hi1
  have HI2 := Lib.hid hi2
  clear hw hi0 hi1 hi2
  have HLn := Lib.hid h9
  have HVn := Lib.hid h8
  clear h9 h8
  have H0 := Lib.hid (Below.refl w.heap.size w)
  have H1 := Lib.hid (h)
  clear h
  have H2 := Lib.hid (H1.out.step (al w (.cells #[.slice va V.length vc, .slice sa L.length sc] 25)))
  clear H1
  have H3 := Lib.hid (keep2 (al w (.cells #[.slice va V.length vc, .slice sa L.length sc] 25)) H0.out)
  clear H0
  have H4 := Lib.hid (Cs.new w (w.heap.size) #[.slice va V.length vc, .slice sa L.length sc] 25 (by simp))
  have H5 := Lib.hid (H2.out.step (al (w.alloc (.cells #[.slice va V.length vc, .slice sa L.length sc] 25)) (.cells #[.int .i64 o.a, .int .i64 o.b, .int .i64 o.c, .int .i64 o.d] 27)))
  clear H2
  have H6 := Lib.hid (H4.out.step (al (w.alloc (.cells #[.slice va V.length vc, .slice sa L.length sc] 25)) (.cells #[.int .i64 o.a, .int .i64 o.b, .int .i64 o.c, .int .i64 o.d] 27)))
  clear H4
  have H7 := Lib.hid (keep2 (al (w.alloc (.cells #[.slice va V.length vc, .slice sa L.length sc] 25)) (.cells #[.int .i64 o.a, .int .i64 o.b, .int .i64 o.c, .int .i64 o.d] 27)) H3.out)
  clear H3
  have H8 := Lib.hid (Cs.new (w.alloc (.cells #[.slice va V.length vc, .slice sa L.length sc] 25)) (w.heap.size + 1) #[.int .i64 o.a, .int .i64 o.b, .int .i64 o.c, .int .i64 o.d] 27 (by simp))
  have H9 := Lib.hid (H5.out.step (al ((w.alloc (.cells #[.slice va V.length vc, .slice sa L.length sc] 25)).alloc (.cells #[.int .i64 o.a, .int .i64 o.b, .int .i64 o.c, .int .i64 o.d] 27)) (.cells #[.slice none 0 0, .slice none 0 0] 25)))
  clear H5
  have H10 := Lib.hid (H6.out.step (al ((w.alloc (.cells #[.slice va V.length vc, .slice sa L.length sc] 25)).alloc (.cells #[.int .i64 o.a, .int .i64 o.b, .int .i64 o.c, .int .i64 o.d] 27)) (.cells #[.slice none 0 0, .slice none 0 0] 25)))
  clear H6
  have H11 := Lib.hid (H8.out.step (al ((w.alloc (.cells #[.slice va V.length vc, .slice sa L.length sc] 25)).alloc (.cells #[.int .i64 o.a, .int .i64 o.b, .int .i64 o.c, .int .i64 o.d] 27)) (.cells #[.slice none 0 0, .slice none 0 0] 25)))
  clear H8
  have H12 := Lib.hid (keep2 (al ((w.alloc (.cells #[.slice va V.length vc, .slice sa L.length sc] 25)).alloc (.cells #[.int .i64 o.a, .int .i64 o.b, .int .i64 o.c, .int .i64 o.d] 27)) (.cells #[.slice none 0 0, .slice none 0 0] 25)) H7.out)
  clear H7
  have H13 := Lib.hid (Cs.new ((w.alloc (.cells #[.slice va V.length vc, .slice sa L.length sc] 25)).alloc (.cells #[.int .i64 o.a, .int .i64 o.b, .int .i64 o.c, .int .i64 o.d] 27)) (w.heap.size + 1 + 1) #[.slice none 0 0, .slice none 0 0] 25 (by simp))
  have H14 := Lib.hid (by have g := BoxN.new ((w.alloc (.cells #[.slice va V.length vc, .slice sa L.length sc] 25)).alloc (.cells #[.int .i64 o.a, .int .i64 o.b, .int .i64 o.c, .int .i64 o.d] 27)) #[.slice none 0 0, .slice none 0 0] 25; rw [show ((w.alloc (.cells #[.slice va V.length vc, .slice sa L.length sc] 25)).alloc (.cells #[.int .i64 o.a, .int .i64 o.b, .int .i64 o.c, .int .i64 o.d] 27)).heap.size = w.heap.size + 1 + 1 by simp] at g; exact g)
  go_enter Try.func12, Try.ntmps12
  have xb0 : (((w.alloc (.cells #[.slice va V.length vc, .slice sa L.length sc] 25)).alloc (.cells #[.int .i64 o.a, .int .i64 o.b, .int .i64 o.c, .int .i64 o.d] 27)).alloc (.cells #[.slice none 0 0, .slice none 0 0] 25)).cell? ⟨(w.heap.size), 0, none⟩ = some (.slice va V.length vc) := H10.out.c 0 rfl
  have xb1 : (((w.alloc (.cells #[.slice va V.length vc, .slice sa L.length sc] 25)).alloc (.cells #[.int .i64 o.a, .int .i64 o.b, .int .i64 o.c, .int .i64 o.d] 27)).alloc (.cells #[.slice none 0 0, .slice none 0 0] 25)).cell? ⟨(w.heap.size), 1, none⟩ = some (.slice sa L.length sc) := H10.out.c 1 rfl
  have zb : (w.heap.size) < (((w.alloc (.cells #[.slice va V.length vc, .slice sa L.length sc] 25)).alloc (.cells #[.int .i64 o.a, .int .i64 o.b, .int .i64 o.c, .int .i64 o.d] 27)).alloc (.cells #[.slice none 0 0, .slice none 0 0] 25)).heap.size := H10.out.2.2
  go_wp2_with fail
  refine (validR_any va vc V sa sc L _ H9.out (by have := HLn.out; unfold maxLen; omega) (by have := HVn.out; unfold maxLen; omega)).mono ?_
  rintro e u1 ⟨rfl, b1⟩
  clear xb0 xb1 zb
  have H15 := Lib.hid (H9.out.step b1)
  clear H9
  have H16 := Lib.hid (H10.out.step b1)
  clear H10
  have H17 := Lib.hid (H11.out.step b1)
  clear H11
  have H18 := Lib.hid (H13.out.step b1)
  clear H13
  have H19 := Lib.hid (H14.out.step b1)
  clear H14
  have H20 := Lib.hid (keep2 b1 H12.out)
  clear H12
  clear b1
  rw [HWW.out]
  have xo0 : u1.cell? ⟨(w.heap.size + 1), 0, none⟩ = some (.int .i64 o.a) := H17.out.c 0 rfl
  have xo1 : u1.cell? ⟨(w.heap.size + 1), 1, none⟩ = some (.int .i64 o.b) := H17.out.c 1 rfl
  have xo2 : u1.cell? ⟨(w.heap.size + 1), 2, none⟩ = some (.int .i64 o.c) := H17.out.c 2 rfl
  have xo3 : u1.cell? ⟨(w.heap.size + 1), 3, none⟩ = some (.int .i64 o.d) := H17.out.c 3 rfl
  have zo : (w.heap.size + 1) < u1.heap.size := H17.out.2.2
  go_wp2_with fail
  refine (between_any 0 o.a 1000000000 _).mono ?_
  rintro e u2 ⟨rfl, b2⟩
  clear xo0 xo1 xo2 xo3 zo
  have H21 := Lib.hid (H15.out.step b2)
  clear H15
  have H22 := Lib.hid (H16.out.step b2)
  clear H16
  have H23 := Lib.hid (H17.out.step b2)
  clear H17
  have H24 := Lib.hid (H18.out.step b2)
  clear H18
  have H25 := Lib.hid (H19.out.step b2)
  clear H19
  have H26 := Lib.hid (keep2 b2 H20.out)
  clear H20
  clear b2
  rw [HI0.out]
  have xo0 : u2.cell? ⟨(w.heap.size + 1), 0, none⟩ = some (.int .i64 o.a) := H23.out.c 0 rfl
  have xo1 : u2.cell? ⟨(w.heap.size + 1), 1, none⟩ = some (.int .i64 o.b) := H23.out.c 1 rfl
  have xo2 : u2.cell? ⟨(w.heap.size + 1), 2, none⟩ = some (.int .i64 o.c) := H23.out.c 2 rfl
  have xo3 : u2.cell? ⟨(w.heap.size + 1), 3, none⟩ = some (.int .i64 o.d) := H23.out.c 3 rfl
  have zo : (w.heap.size + 1) < u2.heap.size := H23.out.2.2
  go_wp2_with fail
  refine (between_any 0 o.b 1000000000 _).mono ?_
  rintro e u3 ⟨rfl, b3⟩
  clear xo0 xo1 xo2 xo3 zo
  have H27 := Lib.hid (H21.out.step b3)
  clear H21
  have H28 := Lib.hid (H22.out.step b3)
  clear H22
  have H29 := Lib.hid (H23.out.step b3)
  clear H23
  have H30 := Lib.hid (H24.out.step b3)
  clear H24
  have H31 := Lib.hid (H25.out.step b3)
  clear H25
  have H32 := Lib.hid (keep2 b3 H26.out)
  clear H26
  clear b3
  rw [HI1.out]
  have xo0 : u3.cell? ⟨(w.heap.size + 1), 0, none⟩ = some (.int .i64 o.a) := H29.out.c 0 rfl
  have xo1 : u3.cell? ⟨(w.heap.size + 1), 1, none⟩ = some (.int .i64 o.b) := H29.out.c 1 rfl
  have xo2 : u3.cell? ⟨(w.heap.size + 1), 2, none⟩ = some (.int .i64 o.c) := H29.out.c 2 rfl
  have xo3 : u3.cell? ⟨(w.heap.size + 1), 3, none⟩ = some (.int .i64 o.d) := H29.out.c 3 rfl
  have zo : (w.heap.size + 1) < u3.heap.size := H29.out.2.2
  go_wp2_with fail
  refine (between_any 0 o.c 1000000000 _).mono ?_
  rintro e u4 ⟨rfl, b4⟩
  clear xo0 xo1 xo2 xo3 zo
  have H33 := Lib.hid (H27.out.step b4)
  clear H27
  have H34 := Lib.hid (H28.out.step b4)
  clear H28
  have H35 := Lib.hid (H29.out.step b4)
  clear H29
  have H36 := Lib.hid (H30.out.step b4)
  clear H30
  have H37 := Lib.hid (H31.out.step b4)
  clear H31
  have H38 := Lib.hid (keep2 b4 H32.out)
  clear H32
  clear b4
  rw [HI2.out]
  have xz0 : u4.cell? ⟨(w.heap.size + 1 + 1), 0, none⟩ = some (.slice none 0 0) := H36.out.c 0 rfl
  have xz1 : u4.cell? ⟨(w.heap.size + 1 + 1), 1, none⟩ = some (.slice none 0 0) := H36.out.c 1 rfl
  have zz : (w.heap.size + 1 + 1) < u4.heap.size := H36.out.2.2
  have fz0 : u4.frozen? ⟨(w.heap.size + 1 + 1), 0, none⟩ = false := H36.out.f 0 (by simp)
  have fz1 : u4.frozen? ⟨(w.heap.size + 1 + 1), 1, none⟩ = false := H36.out.f 1 (by simp)
  go_wp2
  refine (fun (h : ∀ X : World, Cs X (w.heap.size + 1 + 1) #[.slice none 0 0, .slice none 0 0] → Chg (w.heap.size + 1 + 1) u4 X → bodyPost Try.prog Try.f12 _ Exit.ret _ X) => h _ (Cs.set (Cs.set H36.out 0 (by simp) (.slice none 0 0) rfl) 1 (by simp) (.slice none 0 0) (vs' := #[.slice none 0 0, .slice none 0 0]) rfl) (((Chg.of (Below.refl _ u4)).set 0 _).set 1 _)) ?_
  intro X hC hB
  have k0 : X.cell? ⟨(w.heap.size + 1 + 1), 0, none⟩ = some (.slice none 0 0) := hC.c 0 rfl
  have k1 : X.cell? ⟨(w.heap.size + 1 + 1), 1, none⟩ = some (.slice none 0 0) := hC.c 1 rfl
  exact bodyPost_ret (v := .tuple #[.agg #[.slice none 0 0, .slice none 0 0], .int .i64 1]) (by simp [results, Try.results12, go_sem, k0, k1]) rfl (⟨rfl, H38.out.trans (hB.below (by omega) H38.out.size)⟩)
set_option maxRecDepth 100000 in
set_option maxHeartbeats 8000000 in
theorem rsent_i4 (va : Option Addr) (vc : Nat) (V : List Int) (sa : Option Addr) (sc : Nat) (L : List Od) (o : Od) (w : World) (h : Rb V L va vc sa sc w) (h9 : L.length ≤ 300) (h8 : V.length ≤ 300) (hw : isW V L = true) (hi0 : inr o.a 0 1000000000 = true) (hi1 : inr o.b 0 1000000000 = true) (hi2 : inr o.c 0 1000000000 = true) (hi3 : inr o.d 0 15 = false) :
    Calls Try.prog 12 #[.agg #[.slice va V.length vc, .slice sa L.length sc], .agg #[.int .i64 o.a, .int .i64 o.b, .int .i64 o.c, .int .i64 o.d]] w (fun e w' => e = .returned (.tuple #[.agg #[.slice none 0 0, .slice none 0 0], .int .i64 1]) ∧ Below w.heap.size w w') := by
  have HWW := Lib.hid hw
  have HI0 := Lib.hid hi0
  have HI1 := Lib.hid hi1
  have HI2 := Lib.hid hi2
  have HI3 := Lib.hid hi3
  clear hw hi0 hi1 hi2 hi3
  have HLn := Lib.hid h9
  have HVn := Lib.hid h8
  clear h9 h8
  have H0 := Lib.hid (Below.refl w.heap.size w)
  have H1 := Lib.hid (h)
  clear h
  have H2 := Lib.hid (H1.out.step (al w (.cells #[.slice va V.length vc, .slice sa L.length sc] 25)))
  clear H1
  have H3 := Lib.hid (keep2 (al w (.cells #[.slice va V.length vc, .slice sa L.length sc] 25)) H0.out)
  clear H0
  have H4 := Lib.hid (Cs.new w (w.heap.size) #[.slice va V.length vc, .slice sa L.length sc] 25 (by simp))
  have H5 := Lib.hid (H2.out.step (al (w.alloc (.cells #[.slice va V.length vc, .slice sa L.length sc] 25)) (.cells #[.int .i64 o.a, .int .i64 o.b, .int .i64 o.c, .int .i64 o.d] 27)))
  clear H2
  have H6 := Lib.hid (H4.out.step (al (w.alloc (.cells #[.slice va V.length vc, .slice sa L.length sc] 25)) (.cells #[.int .i64 o.a, .int .i64 o.b, .int .i64 o.c, .int .i64 o.d] 27)))
  clear H4
  have H7 := Lib.hid (keep2 (al (w.alloc (.cells #[.slice va V.length vc, .slice sa L.length sc] 25)) (.cells #[.int .i64 o.a, .int .i64 o.b, .int .i64 o.c, .int .i64 o.d] 27)) H3.out)
  clear H3
  have H8 := Lib.hid (Cs.new (w.alloc (.cells #[.slice va V.length vc, .slice sa L.length sc] 25)) (w.heap.size + 1) #[.int .i64 o.a, .int .i64 o.b, .int .i64 o.c, .int .i64 o.d] 27 (by simp))
  have H9 := Lib.hid (H5.out.step (al ((w.alloc (.cells #[.slice va V.length vc, .slice sa L.length sc] 25)).alloc (.cells #[.int .i64 o.a, .int .i64 o.b, .int .i64 o.c, .int .i64 o.d] 27)) (.cells #[.slice none 0 0, .slice none 0 0] 25)))
  clear H5
  have H10 := Lib.hid (H6.out.step (al ((w.alloc (.cells #[.slice va V.length vc, .slice sa L.length sc] 25)).alloc (.cells #[.int .i64 o.a, .int .i64 o.b, .int .i64 o.c, .int .i64 o.d] 27)) (.cells #[.slice none 0 0, .slice none 0 0] 25)))
  clear H6
  have H11 := Lib.hid (H8.out.step (al ((w.alloc (.cells #[.slice va V.length vc, .slice sa L.length sc] 25)).alloc (.cells #[.int .i64 o.a, .int .i64 o.b, .int .i64 o.c, .int .i64 o.d] 27)) (.cells #[.slice none 0 0, .slice none 0 0] 25)))
  clear H8
  have H12 := Lib.hid (keep2 (al ((w.alloc (.cells #[.slice va V.length vc, .slice sa L.length sc] 25)).alloc (.cells #[.int .i64 o.a, .int .i64 o.b, .int .i64 o.c, .int .i64 o.d] 27)) (.cells #[.slice none 0 0, .slice none 0 0] 25)) H7.out)
  clear H7
  have H13 := Lib.hid (Cs.new ((w.alloc (.cells #[.slice va V.length vc, .slice sa L.length sc] 25)).alloc (.cells #[.int .i64 o.a, .int .i64 o.b, .int .i64 o.c, .int .i64 o.d] 27)) (w.heap.size + 1 + 1) #[.slice none 0 0, .slice none 0 0] 25 (by simp))
  have H14 := Lib.hid (by have g := BoxN.new ((w.alloc (.cells #[.slice va V.length vc, .slice sa L.length sc] 25)).alloc (.cells #[.int .i64 o.a, .int .i64 o.b, .int .i64 o.c, .int .i64 o.d] 27)) #[.slice none 0 0, .slice none 0 0] 25; rw [show ((w.alloc (.cells #[.slice va V.length vc, .slice sa L.length sc] 25)).alloc (.cells #[.int .i64 o.a, .int .i64 o.b, .int .i64 o.c, .int .i64 o.d] 27)).heap.size = w.heap.size + 1 + 1 by simp] at g; exact g)
  go_enter Try.func12, Try.ntmps12
  have xb0 : (((w.alloc (.cells #[.slice va V.length vc, .slice sa L.length sc] 25)).alloc (.cells #[.int .i64 o.a, .int .i64 o.b, .int .i64 o.c, .int .i64 o.d] 27)).alloc (.cells #[.slice none 0 0, .slice none 0 0] 25)).cell? ⟨(w.heap.size), 0, none⟩ = some (.slice va V.length vc) := H10.out.c 0 rfl
  have xb1 : (((w.alloc (.cells #[.slice va V.length vc, .slice sa L.length sc] 25)).alloc (.cells #[.int .i64 o.a, .int .i64 o.b, .int .i64 o.c, .int .i64 o.d] 27)).alloc (.cells #[.slice none 0 0, .slice none 0 0] 25)).cell? ⟨(w.heap.size), 1, none⟩ = some (.slice sa L.length sc) := H10.out.c 1 rfl
  have zb : (w.heap.size) < (((w.alloc (.cells #[.slice va V.length vc, .slice sa L.length sc] 25)).alloc (.cells #[.int .i64 o.a, .int .i64 o.b, .int .i64 o.c, .int .i64 o.d] 27)).alloc (.cells #[.slice none 0 0, .slice none 0 0] 25)).heap.size := H10.out.2.2
  go_wp2_with fail
  refine (validR_any va vc V sa sc L _ H9.out (by have := HLn.out; unfold maxLen; omega) (by have := HVn.out; unfold maxLen; omega)).mono ?_
  rintro e u1 ⟨rfl, b1⟩
  clear xb0 xb1 zb
  have H15 := Lib.hid (H9.out.step b1)
  clear H9
  have H16 := Lib.hid (H10.out.step b1)
  clear H10
  have H17 := Lib.hid (H11.out.step b1)
  clear H11
  have H18 := Lib.hid (H13.out.step b1)
  clear H13
  have H19 := Lib.hid (H14.out.step b1)
  clear H14
  have H20 := Lib.hid (keep2 b1 H12.out)
  clear H12
  clear b1
  rw [HWW.out]
  have xo0 : u1.cell? ⟨(w.heap.size + 1), 0, none⟩ = some (.int .i64 o.a) := H17.out.c 0 rfl
  have xo1 : u1.cell? ⟨(w.heap.size + 1), 1, none⟩ = some (.int .i64 o.b) := H17.out.c 1 rfl
  have xo2 : u1.cell? ⟨(w.heap.size + 1), 2, none⟩ = some (.int .i64 o.c) := H17.out.c 2 rfl
  have xo3 : u1.cell? ⟨(w.heap.size + 1), 3, none⟩ = some (.int .i64 o.d) := H17.out.c 3 rfl
  have zo : (w.heap.size + 1) < u1.heap.size := H17.out.2.2
  go_wp2_with fail
  refine (between_any 0 o.a 1000000000 _).mono ?_
  rintro e u2 ⟨rfl, b2⟩
  clear xo0 xo1 xo2 xo3 zo
  have H21 := Lib.hid (H15.out.step b2)
  clear H15
  have H22 := Lib.hid (H16.out.step b2)
  clear H16
  have H23 := Lib.hid (H17.out.step b2)
  clear H17
  have H24 := Lib.hid (H18.out.step b2)
  clear H18
  have H25 := Lib.hid (H19.out.step b2)
  clear H19
  have H26 := Lib.hid (keep2 b2 H20.out)
  clear H20
  clear b2
  rw [HI0.out]
  have xo0 : u2.cell? ⟨(w.heap.size + 1), 0, none⟩ = some (.int .i64 o.a) := H23.out.c 0 rfl
  have xo1 : u2.cell? ⟨(w.heap.size + 1), 1, none⟩ = some (.int .i64 o.b) := H23.out.c 1 rfl
  have xo2 : u2.cell? ⟨(w.heap.size + 1), 2, none⟩ = some (.int .i64 o.c) := H23.out.c 2 rfl
  have xo3 : u2.cell? ⟨(w.heap.size + 1), 3, none⟩ = some (.int .i64 o.d) := H23.out.c 3 rfl
  have zo : (w.heap.size + 1) < u2.heap.size := H23.out.2.2
  go_wp2_with fail
  refine (between_any 0 o.b 1000000000 _).mono ?_
  rintro e u3 ⟨rfl, b3⟩
  clear xo0 xo1 xo2 xo3 zo
  have H27 := Lib.hid (H21.out.step b3)
  clear H21
  have H28 := Lib.hid (H22.out.step b3)
  clear H22
  have H29 := Lib.hid (H23.out.step b3)
  clear H23
  have H30 := Lib.hid (H24.out.step b3)
  clear H24
  have H31 := Lib.hid (H25.out.step b3)
  clear H25
  have H32 := Lib.hid (keep2 b3 H26.out)
  clear H26
  clear b3
  rw [HI1.out]
  have xo0 : u3.cell? ⟨(w.heap.size + 1), 0, none⟩ = some (.int .i64 o.a) := H29.out.c 0 rfl
  have xo1 : u3.cell? ⟨(w.heap.size + 1), 1, none⟩ = some (.int .i64 o.b) := H29.out.c 1 rfl
  have xo2 : u3.cell? ⟨(w.heap.size + 1), 2, none⟩ = some (.int .i64 o.c) := H29.out.c 2 rfl
  have xo3 : u3.cell? ⟨(w.heap.size + 1), 3, none⟩ = some (.int .i64 o.d) := H29.out.c 3 rfl
  have zo : (w.heap.size + 1) < u3.heap.size := H29.out.2.2
  go_wp2_with fail
  refine (between_any 0 o.c 1000000000 _).mono ?_
  rintro e u4 ⟨rfl, b4⟩
  clear xo0 xo1 xo2 xo3 zo
  have H33 := Lib.hid (H27.out.step b4)
  clear H27
  have H34 := Lib.hid (H28.out.step b4)
  clear H28
  have H35 := Lib.hid (H29.out.step b4)
  clear H29
  have H36 := Lib.hid (H30.out.step b4)
  clear H30
  have H37 := Lib.hid (H31.out.step b4)
  clear H31
  have H38 := Lib.hid (keep2 b4 H32.out)
  clear H32
  clear b4
  rw [HI2.out]
  have xo0 : u4.cell? ⟨(w.heap.size + 1), 0, none⟩ = some (.int .i64 o.a) := H35.out.c 0 rfl
  have xo1 : u4.cell? ⟨(w.heap.size + 1), 1, none⟩ = some (.int .i64 o.b) := H35.out.c 1 rfl
  have xo2 : u4.cell? ⟨(w.heap.size + 1), 2, none⟩ = some (.int .i64 o.c) := H35.out.c 2 rfl
  have xo3 : u4.cell? ⟨(w.heap.size + 1), 3, none⟩ = some (.int .i64 o.d) := H35.out.c 3 rfl
  have zo : (w.heap.size + 1) < u4.heap.size := H35.out.2.2
  go_wp2_with fail
  refine (between_any 0 o.d 15 _).mono ?_
  rintro e u5 ⟨rfl, b5⟩
  clear xo0 xo1 xo2 xo3 zo
  have H39 := Lib.hid (H33.out.step b5)
  clear H33
  have H40 := Lib.hid (H34.out.step b5)
  clear H34
  have H41 := Lib.hid (H35.out.step b5)
  clear H35
  have H42 := Lib.hid (H36.out.step b5)
  clear H36
  have H43 := Lib.hid (H37.out.step b5)
  clear H37
  have H44 := Lib.hid (keep2 b5 H38.out)
  clear H38
  clear b5
  rw [HI3.out]
  have xz0 : u5.cell? ⟨(w.heap.size + 1 + 1), 0, none⟩ = some (.slice none 0 0) := H42.out.c 0 rfl
  have xz1 : u5.cell? ⟨(w.heap.size + 1 + 1), 1, none⟩ = some (.slice none 0 0) := H42.out.c 1 rfl
  have zz : (w.heap.size + 1 + 1) < u5.heap.size := H42.out.2.2
  have fz0 : u5.frozen? ⟨(w.heap.size + 1 + 1), 0, none⟩ = false := H42.out.f 0 (by simp)
  have fz1 : u5.frozen? ⟨(w.heap.size + 1 + 1), 1, none⟩ = false := H42.out.f 1 (by simp)
  go_wp2
  refine (fun (h : ∀ X : World, Cs X (w.heap.size + 1 + 1) #[.slice none 0 0, .slice none 0 0] → Chg (w.heap.size + 1 + 1) u5 X → bodyPost Try.prog Try.f12 _ Exit.ret _ X) => h _ (Cs.set (Cs.set H42.out 0 (by simp) (.slice none 0 0) rfl) 1 (by simp) (.slice none 0 0) (vs' := #[.slice none 0 0, .slice none 0 0]) rfl) (((Chg.of (Below.refl _ u5)).set 0 _).set 1 _)) ?_
  intro X hC hB
  have k0 : X.cell? ⟨(w.heap.size + 1 + 1), 0, none⟩ = some (.slice none 0 0) := hC.c 0 rfl
  have k1 : X.cell? ⟨(w.heap.size + 1 + 1), 1, none⟩ = some (.slice none 0 0) := hC.c 1 rfl
  exact bodyPost_ret (v := .tuple #[.agg #[.slice none 0 0, .slice none 0 0], .int .i64 1]) (by simp [results, Try.results12, go_sem, k0, k1]) rfl (⟨rfl, H44.out.trans (hB.below (by omega) H44.out.size)⟩)
theorem rsent_bad (va : Option Addr) (vc : Nat) (V : List Int) (sa : Option Addr) (sc : Nat) (L : List Od) (o : Od) (w : World) (h : Rb V L va vc sa sc w) (h9 : L.length ≤ 300) (h8 : V.length ≤ 300) (hw : isW V L = true) (hi : isO o = false) :
    Calls Try.prog 12 #[.agg #[.slice va V.length vc, .slice sa L.length sc], .agg #[.int .i64 o.a, .int .i64 o.b, .int .i64 o.c, .int .i64 o.d]] w (fun e w' => e = .returned (.tuple #[.agg #[.slice none 0 0, .slice none 0 0], .int .i64 1]) ∧ Below w.heap.size w w') := by
  unfold isO at hi
  cases h0 : inr o.a 0 1000000000
  · exact rsent_i1 va vc V sa sc L o w h h9 h8 hw h0
  · cases h1 : inr o.b 0 1000000000
    · exact rsent_i2 va vc V sa sc L o w h h9 h8 hw h0 h1
    · cases h2 : inr o.c 0 1000000000
      · exact rsent_i3 va vc V sa sc L o w h h9 h8 hw h0 h1 h2
      · cases h3 : inr o.d 0 15
        · exact rsent_i4 va vc V sa sc L o w h h9 h8 hw h0 h1 h2 h3
        · rw [h0, h1, h2, h3] at hi; exact absurd hi (by simp)
end Go.Proofs.Ytigpopemllamdaa
