/- Beliefs, the reference: 'Confirmed'. -/
import Derived.Test.YtigpopemllamdaaEc
import Derived.Deep.AppendLies
import Derived.Deep.CutRange
namespace Go.Proofs.Ytigpopemllamdaa
open Go.RowKit

set_option maxRecDepth 100000 in
set_option maxHeartbeats 8000000 in
theorem rconf_no (va : Option Addr) (vc : Nat) (V : List Int) (sa : Option Addr) (sc : Nat) (L : List Od) (q : Int) (w : World) (h : Rb V L va vc sa sc w) (h9 : L.length ≤ maxLen) (h8 : V.length ≤ maxLen) (hw : isW V L = false) :
    Calls Try.prog 14 #[.agg #[.slice va V.length vc, .slice sa L.length sc], .int .i64 q] w (fun e w' => e = .returned (.tuple #[.agg #[.slice none 0 0, .slice none 0 0], .int .i64 1]) ∧ Below w.heap.size w w') := by
  have HWW := Lib.hid hw
  have H0 := Lib.hid (Below.refl w.heap.size w)
  have H1 := Lib.hid (h)
  clear h
  have H2 := Lib.hid (H1.out.step (al w (.cells #[.slice va V.length vc, .slice sa L.length sc] 25)))
  clear H1
  have H3 := Lib.hid (keep2 (al w (.cells #[.slice va V.length vc, .slice sa L.length sc] 25)) H0.out)
  clear H0
  have H4 := Lib.hid (Cs.new w (w.heap.size) #[.slice va V.length vc, .slice sa L.length sc] 25 (by simp))
  have H5 := Lib.hid (H2.out.step (al (w.alloc (.cells #[.slice va V.length vc, .slice sa L.length sc] 25)) (.cells #[.slice none 0 0, .slice none 0 0] 25)))
  clear H2
  have H6 := Lib.hid (H4.out.step (al (w.alloc (.cells #[.slice va V.length vc, .slice sa L.length sc] 25)) (.cells #[.slice none 0 0, .slice none 0 0] 25)))
  clear H4
  have H7 := Lib.hid (keep2 (al (w.alloc (.cells #[.slice va V.length vc, .slice sa L.length sc] 25)) (.cells #[.slice none 0 0, .slice none 0 0] 25)) H3.out)
  clear H3
  have H8 := Lib.hid (Cs.new (w.alloc (.cells #[.slice va V.length vc, .slice sa L.length sc] 25)) (w.heap.size + 1) #[.slice none 0 0, .slice none 0 0] 25 (by simp))
  have H9 := Lib.hid (by have g := BoxN.new (w.alloc (.cells #[.slice va V.length vc, .slice sa L.length sc] 25)) #[.slice none 0 0, .slice none 0 0] 25; rw [show (w.alloc (.cells #[.slice va V.length vc, .slice sa L.length sc] 25)).heap.size = w.heap.size + 1 by simp] at g; exact g)
  go_enter Try.func14, Try.ntmps14
  have xb0 : ((w.alloc (.cells #[.slice va V.length vc, .slice sa L.length sc] 25)).alloc (.cells #[.slice none 0 0, .slice none 0 0] 25)).cell? ⟨(w.heap.size), 0, none⟩ = some (.slice va V.length vc) := H6.out.c 0 rfl
  have xb1 : ((w.alloc (.cells #[.slice va V.length vc, .slice sa L.length sc] 25)).alloc (.cells #[.slice none 0 0, .slice none 0 0] 25)).cell? ⟨(w.heap.size), 1, none⟩ = some (.slice sa L.length sc) := H6.out.c 1 rfl
  have zb : (w.heap.size) < ((w.alloc (.cells #[.slice va V.length vc, .slice sa L.length sc] 25)).alloc (.cells #[.slice none 0 0, .slice none 0 0] 25)).heap.size := H6.out.2.2
  go_wp2_with fail
  refine (validR_any va vc V sa sc L _ H5.out h9 h8).mono ?_
  rintro e u1 ⟨rfl, b1⟩
  clear xb0 xb1 zb
  have H10 := Lib.hid (H5.out.step b1)
  clear H5
  have H11 := Lib.hid (H6.out.step b1)
  clear H6
  have H12 := Lib.hid (H8.out.step b1)
  clear H8
  have H13 := Lib.hid (H9.out.step b1)
  clear H9
  have H14 := Lib.hid (keep2 b1 H7.out)
  clear H7
  clear b1
  rw [HWW.out]
  have xz0 : u1.cell? ⟨(w.heap.size + 1), 0, none⟩ = some (.slice none 0 0) := H12.out.c 0 rfl
  have xz1 : u1.cell? ⟨(w.heap.size + 1), 1, none⟩ = some (.slice none 0 0) := H12.out.c 1 rfl
  have zz : (w.heap.size + 1) < u1.heap.size := H12.out.2.2
  have fz0 : u1.frozen? ⟨(w.heap.size + 1), 0, none⟩ = false := H12.out.f 0 (by simp)
  have fz1 : u1.frozen? ⟨(w.heap.size + 1), 1, none⟩ = false := H12.out.f 1 (by simp)
  go_wp2
  refine (fun (h : ∀ X : World, Cs X (w.heap.size + 1) #[.slice none 0 0, .slice none 0 0] → Chg (w.heap.size + 1) u1 X → bodyPost Try.prog Try.f14 _ Exit.ret _ X) => h _ (Cs.set (Cs.set H12.out 0 (by simp) (.slice none 0 0) rfl) 1 (by simp) (.slice none 0 0) (vs' := #[.slice none 0 0, .slice none 0 0]) rfl) (((Chg.of (Below.refl _ u1)).set 0 _).set 1 _)) ?_
  intro X hC hB
  have k0 : X.cell? ⟨(w.heap.size + 1), 0, none⟩ = some (.slice none 0 0) := hC.c 0 rfl
  have k1 : X.cell? ⟨(w.heap.size + 1), 1, none⟩ = some (.slice none 0 0) := hC.c 1 rfl
  exact bodyPost_ret (v := .tuple #[.agg #[.slice none 0 0, .slice none 0 0], .int .i64 1]) (by simp [results, Try.results14, go_sem, k0, k1]) rfl ⟨rfl, H14.out.trans (hB.below (by omega) H14.out.size)⟩
set_option maxRecDepth 100000 in
set_option maxHeartbeats 8000000 in
theorem rconf_miss (va : Option Addr) (vc : Nat) (V : List Int) (sa : Option Addr) (sc : Nat) (L : List Od) (q : Int) (w : World) (h : Rb V L va vc sa sc w) (h9 : L.length ≤ maxLen) (h8 : V.length ≤ maxLen) (hw : isW V L = true) (hf : fsP (cfP q) L = -1) :
    Calls Try.prog 14 #[.agg #[.slice va V.length vc, .slice sa L.length sc], .int .i64 q] w (fun e w' => e = .returned (.tuple #[.agg #[.slice none 0 0, .slice none 0 0], .int .i64 27]) ∧ Below w.heap.size w w') := by
  have HWW := Lib.hid hw
  have HFX := Lib.hid hf
  have H0 := Lib.hid (Below.refl w.heap.size w)
  have H1 := Lib.hid (h)
  clear h
  have H2 := Lib.hid (H1.out.step (al w (.cells #[.slice va V.length vc, .slice sa L.length sc] 25)))
  clear H1
  have H3 := Lib.hid (keep2 (al w (.cells #[.slice va V.length vc, .slice sa L.length sc] 25)) H0.out)
  clear H0
  have H4 := Lib.hid (Cs.new w (w.heap.size) #[.slice va V.length vc, .slice sa L.length sc] 25 (by simp))
  have H5 := Lib.hid (H2.out.step (al (w.alloc (.cells #[.slice va V.length vc, .slice sa L.length sc] 25)) (.cells #[.slice none 0 0, .slice none 0 0] 25)))
  clear H2
  have H6 := Lib.hid (H4.out.step (al (w.alloc (.cells #[.slice va V.length vc, .slice sa L.length sc] 25)) (.cells #[.slice none 0 0, .slice none 0 0] 25)))
  clear H4
  have H7 := Lib.hid (keep2 (al (w.alloc (.cells #[.slice va V.length vc, .slice sa L.length sc] 25)) (.cells #[.slice none 0 0, .slice none 0 0] 25)) H3.out)
  clear H3
  have H8 := Lib.hid (Cs.new (w.alloc (.cells #[.slice va V.length vc, .slice sa L.length sc] 25)) (w.heap.size + 1) #[.slice none 0 0, .slice none 0 0] 25 (by simp))
  have H9 := Lib.hid (by have g := BoxN.new (w.alloc (.cells #[.slice va V.length vc, .slice sa L.length sc] 25)) #[.slice none 0 0, .slice none 0 0] 25; rw [show (w.alloc (.cells #[.slice va V.length vc, .slice sa L.length sc] 25)).heap.size = w.heap.size + 1 by simp] at g; exact g)
  go_enter Try.func14, Try.ntmps14
  have xb0 : ((w.alloc (.cells #[.slice va V.length vc, .slice sa L.length sc] 25)).alloc (.cells #[.slice none 0 0, .slice none 0 0] 25)).cell? ⟨(w.heap.size), 0, none⟩ = some (.slice va V.length vc) := H6.out.c 0 rfl
  have xb1 : ((w.alloc (.cells #[.slice va V.length vc, .slice sa L.length sc] 25)).alloc (.cells #[.slice none 0 0, .slice none 0 0] 25)).cell? ⟨(w.heap.size), 1, none⟩ = some (.slice sa L.length sc) := H6.out.c 1 rfl
  have zb : (w.heap.size) < ((w.alloc (.cells #[.slice va V.length vc, .slice sa L.length sc] 25)).alloc (.cells #[.slice none 0 0, .slice none 0 0] 25)).heap.size := H6.out.2.2
  go_wp2_with fail
  refine (validR_any va vc V sa sc L _ H5.out h9 h8).mono ?_
  rintro e u1 ⟨rfl, b1⟩
  clear xb0 xb1 zb
  have H10 := Lib.hid (H5.out.step b1)
  clear H5
  have H11 := Lib.hid (H6.out.step b1)
  clear H6
  have H12 := Lib.hid (H8.out.step b1)
  clear H8
  have H13 := Lib.hid (H9.out.step b1)
  clear H9
  have H14 := Lib.hid (keep2 b1 H7.out)
  clear H7
  clear b1
  rw [HWW.out]
  have xb0 : u1.cell? ⟨(w.heap.size), 0, none⟩ = some (.slice va V.length vc) := H11.out.c 0 rfl
  have xb1 : u1.cell? ⟨(w.heap.size), 1, none⟩ = some (.slice sa L.length sc) := H11.out.c 1 rfl
  have zb : (w.heap.size) < u1.heap.size := H11.out.2.2
  go_wp2_with fail
  refine (find_any _ sa sc L q _ H10.out.2 h9).mono ?_
  rintro e u2 ⟨rfl, b2⟩
  clear xb0 xb1 zb
  have H15 := Lib.hid (H10.out.step b2)
  clear H10
  have H16 := Lib.hid (H11.out.step b2)
  clear H11
  have H17 := Lib.hid (H12.out.step b2)
  clear H12
  have H18 := Lib.hid (H13.out.step b2)
  clear H13
  have H19 := Lib.hid (keep2 b2 H14.out)
  clear H14
  clear b2
  rw [HFX.out]
  have xz0 : u2.cell? ⟨(w.heap.size + 1), 0, none⟩ = some (.slice none 0 0) := H17.out.c 0 rfl
  have xz1 : u2.cell? ⟨(w.heap.size + 1), 1, none⟩ = some (.slice none 0 0) := H17.out.c 1 rfl
  have zz : (w.heap.size + 1) < u2.heap.size := H17.out.2.2
  have fz0 : u2.frozen? ⟨(w.heap.size + 1), 0, none⟩ = false := H17.out.f 0 (by simp)
  have fz1 : u2.frozen? ⟨(w.heap.size + 1), 1, none⟩ = false := H17.out.f 1 (by simp)
  go_wp2
  refine (fun (h : ∀ X : World, Cs X (w.heap.size + 1) #[.slice none 0 0, .slice none 0 0] → Chg (w.heap.size + 1) u2 X → bodyPost Try.prog Try.f14 _ Exit.ret _ X) => h _ (Cs.set (Cs.set H17.out 0 (by simp) (.slice none 0 0) rfl) 1 (by simp) (.slice none 0 0) (vs' := #[.slice none 0 0, .slice none 0 0]) rfl) (((Chg.of (Below.refl _ u2)).set 0 _).set 1 _)) ?_
  intro X hC hB
  have k0 : X.cell? ⟨(w.heap.size + 1), 0, none⟩ = some (.slice none 0 0) := hC.c 0 rfl
  have k1 : X.cell? ⟨(w.heap.size + 1), 1, none⟩ = some (.slice none 0 0) := hC.c 1 rfl
  exact bodyPost_ret (v := .tuple #[.agg #[.slice none 0 0, .slice none 0 0], .int .i64 27]) (by simp [results, Try.results14, go_sem, k0, k1]) rfl ⟨rfl, H19.out.trans (hB.below (by omega) H19.out.size)⟩
set_option maxRecDepth 100000 in
set_option maxHeartbeats 8000000 in
theorem rconf_go (va : Option Addr) (vc : Nat) (V : List Int) (sa : Option Addr) (sc : Nat) (L : List Od) (q : Int) (w : World) (h : Rb V L va vc sa sc w) (h9 : L.length ≤ maxLen) (h8 : V.length ≤ maxLen) (hw : isW V L = true) (k : Nat) (hf : fsP (cfP q) L = k) (hk : k < L.length) :
    Calls Try.prog 14 #[.agg #[.slice va V.length vc, .slice sa L.length sc], .int .i64 q] w (ChQ (rvl (cfO L k)) (cfO L k) 0 w) := by
  have HWW := Lib.hid hw
  have HFX := Lib.hid hf
  have HK := Lib.hid hk
  have HL20 := Lib.hid (isW_len hw).1
  have HOA := Lib.hid (okR_parts.1 (((isW_iff V L).1 hw).2.2.2.1 _ (getD_mem hk))).1
  clear hf hk
  have H0 := Lib.hid (Below.refl w.heap.size w)
  have H1 := Lib.hid (h)
  clear h
  have H2 := Lib.hid (H1.out.step (al w (.cells #[.slice va V.length vc, .slice sa L.length sc] 25)))
  clear H1
  have H3 := Lib.hid (keep2 (al w (.cells #[.slice va V.length vc, .slice sa L.length sc] 25)) H0.out)
  clear H0
  have H4 := Lib.hid (Cs.new w (w.heap.size) #[.slice va V.length vc, .slice sa L.length sc] 25 (by simp))
  have H5 := Lib.hid (H2.out.step (al (w.alloc (.cells #[.slice va V.length vc, .slice sa L.length sc] 25)) (.cells #[.slice none 0 0, .slice none 0 0] 25)))
  clear H2
  have H6 := Lib.hid (H4.out.step (al (w.alloc (.cells #[.slice va V.length vc, .slice sa L.length sc] 25)) (.cells #[.slice none 0 0, .slice none 0 0] 25)))
  clear H4
  have H7 := Lib.hid (keep2 (al (w.alloc (.cells #[.slice va V.length vc, .slice sa L.length sc] 25)) (.cells #[.slice none 0 0, .slice none 0 0] 25)) H3.out)
  clear H3
  have H8 := Lib.hid (Cs.new (w.alloc (.cells #[.slice va V.length vc, .slice sa L.length sc] 25)) (w.heap.size + 1) #[.slice none 0 0, .slice none 0 0] 25 (by simp))
  have H9 := Lib.hid (by have g := BoxN.new (w.alloc (.cells #[.slice va V.length vc, .slice sa L.length sc] 25)) #[.slice none 0 0, .slice none 0 0] 25; rw [show (w.alloc (.cells #[.slice va V.length vc, .slice sa L.length sc] 25)).heap.size = w.heap.size + 1 by simp] at g; exact g)
  go_enter Try.func14, Try.ntmps14
  have xb0 : ((w.alloc (.cells #[.slice va V.length vc, .slice sa L.length sc] 25)).alloc (.cells #[.slice none 0 0, .slice none 0 0] 25)).cell? ⟨(w.heap.size), 0, none⟩ = some (.slice va V.length vc) := H6.out.c 0 rfl
  have xb1 : ((w.alloc (.cells #[.slice va V.length vc, .slice sa L.length sc] 25)).alloc (.cells #[.slice none 0 0, .slice none 0 0] 25)).cell? ⟨(w.heap.size), 1, none⟩ = some (.slice sa L.length sc) := H6.out.c 1 rfl
  have zb : (w.heap.size) < ((w.alloc (.cells #[.slice va V.length vc, .slice sa L.length sc] 25)).alloc (.cells #[.slice none 0 0, .slice none 0 0] 25)).heap.size := H6.out.2.2
  go_wp2_with fail
  refine (validR_any va vc V sa sc L _ H5.out h9 h8).mono ?_
  rintro e u1 ⟨rfl, b1⟩
  clear xb0 xb1 zb
  have H10 := Lib.hid (H5.out.step b1)
  clear H5
  have H11 := Lib.hid (H6.out.step b1)
  clear H6
  have H12 := Lib.hid (H8.out.step b1)
  clear H8
  have H13 := Lib.hid (H9.out.step b1)
  clear H9
  have H14 := Lib.hid (keep2 b1 H7.out)
  clear H7
  clear b1
  rw [HWW.out]
  have xb0 : u1.cell? ⟨(w.heap.size), 0, none⟩ = some (.slice va V.length vc) := H11.out.c 0 rfl
  have xb1 : u1.cell? ⟨(w.heap.size), 1, none⟩ = some (.slice sa L.length sc) := H11.out.c 1 rfl
  have zb : (w.heap.size) < u1.heap.size := H11.out.2.2
  go_wp2_with fail
  refine (find_any _ sa sc L q _ H10.out.2 h9).mono ?_
  rintro e u2 ⟨rfl, b2⟩
  clear xb0 xb1 zb
  have H15 := Lib.hid (H10.out.step b2)
  clear H10
  have H16 := Lib.hid (H11.out.step b2)
  clear H11
  have H17 := Lib.hid (H12.out.step b2)
  clear H12
  have H18 := Lib.hid (H13.out.step b2)
  clear H13
  have H19 := Lib.hid (keep2 b2 H14.out)
  clear H14
  clear b2
  rw [HFX.out]
  obtain ⟨a1, cc1, hv1, -, -, hcs1⟩ := H15.out.2
  obtain ⟨rfl, rfl⟩ : sa = a1 ∧ sc = cc1 := by simpa using hv1
  obtain ⟨b1, o1, rfl, hx1⟩ := hcs1 (by intro e; have := HK.out; rw [e] at this; simp at this)
  obtain ⟨y0, y1, y2, y3⟩ := hx1 k _ (od_get HK.out)
  have yz := World.block_lt_of_cell? _ _ y0
  have t1 : (k : Int) < (L.length : Int) := by have := HK.out; omega
  have t2 : ¬ (k : Int) < 0 := by omega
  have t3 : decide ((k : Int) < 0) = false := decide_eq_false t2
  clear hcs1 hx1 hv1
  obtain ⟨oo, hoo⟩ : ∃ z9, L.getD k zO = z9 := ⟨_, rfl⟩
  rw [hoo] at y0 y1 y2 y3
  have HOO := Lib.hid hoo
  clear hoo
  have xb0 : u2.cell? ⟨(w.heap.size), 0, none⟩ = some (.slice va V.length vc) := H16.out.c 0 rfl
  have xb1 : u2.cell? ⟨(w.heap.size), 1, none⟩ = some (.slice (some ⟨b1, o1, none⟩) L.length sc) := H16.out.c 1 rfl
  have zb : (w.heap.size) < u2.heap.size := H16.out.2.2
  have H20 := Lib.hid (H15.out.step (al u2 (.cells #[.int .i64 oo.a, .int .i64 oo.b, .int .i64 oo.c, .int .i64 oo.d] 27)))
  clear H15
  have H21 := Lib.hid (H16.out.step (al u2 (.cells #[.int .i64 oo.a, .int .i64 oo.b, .int .i64 oo.c, .int .i64 oo.d] 27)))
  clear H16
  have H22 := Lib.hid (H17.out.step (al u2 (.cells #[.int .i64 oo.a, .int .i64 oo.b, .int .i64 oo.c, .int .i64 oo.d] 27)))
  clear H17
  have H23 := Lib.hid (H18.out.step (al u2 (.cells #[.int .i64 oo.a, .int .i64 oo.b, .int .i64 oo.c, .int .i64 oo.d] 27)))
  clear H18
  have H24 := Lib.hid (keep2 (al u2 (.cells #[.int .i64 oo.a, .int .i64 oo.b, .int .i64 oo.c, .int .i64 oo.d] 27)) H19.out)
  clear H19
  have H25 := Lib.hid (Cs.new u2 (u2.heap.size) #[.int .i64 oo.a, .int .i64 oo.b, .int .i64 oo.c, .int .i64 oo.d] 27 (by simp))
  go_wp2_with fail
  obtain ⟨U, hU⟩ : ∃ z9, (u2.alloc (.cells #[.int .i64 oo.a, .int .i64 oo.b, .int .i64 oo.c, .int .i64 oo.d] 27)) = z9 := ⟨_, rfl⟩
  rw [hU] at H20 H21 H22 H23 H25 H24 ⊢
  clear hU y0 y1 y2 y3 yz t1 t2 t3 xb0 xb1 zb
  obtain ⟨i0, hi0, hz0, hz1, hz2⟩ := info_parts od_info
  go_loopw [8, 9] (fun rv iv wr => ∃ (i : Nat) (P : List Od), i ≤ L.length ∧ P.length ≤ i ∧ iv = .int .i64 (i : Int) ∧ Hid (wr.ownsRow U.heap.size 27 4 rv P.length (ocs P)) ∧ Hid (P ++ rcR L k i = rcR L k 0) ∧ Hid (Below U.heap.size U wr)) (fun _ iv _ => L.length - (intOf iv).toNat)
  case atStart => exact ⟨0, [], by omega, by simp, rfl, Lib.hid (World.ownsRow_nil U U.heap.size 27 4), Lib.hid (by simp), Lib.hid (Below.refl _ _)⟩
  case round =>
    obtain ⟨i, P, hi, hP, rfl, HRW, HN, HW⟩ := hrel
    have H26 := Lib.hid (H20.out.step HW.out)
    have H27 := Lib.hid (H21.out.step HW.out)
    have H28 := Lib.hid (H22.out.step HW.out)
    have H29 := Lib.hid (H25.out.step HW.out)
    have H30 := Lib.hid (H23.out.step HW.out)
    have H31 := Lib.hid (keep2 HW.out H24.out)
    by_cases hlt : i < L.length
    rotate_left
    · skip
      have hil : i = L.length := by omega
      have HP := Lib.hid (show P = rcR L k 0 by rw [← HN.out, hil, rcR_end HK.out, List.append_nil])
      have hP9 : P.length ≤ 1000 := by have := HL20.out; omega
      obtain ⟨M, hM⟩ : ∃ z9, P ++ [(⟨oo.a, oo.b, -1, oo.d⟩ : Od)] = z9 := ⟨_, rfl⟩
      have HM := Lib.hid hM
      have HML := Lib.hid (show M.length ≤ maxLen by rw [← hM]; simp; unfold maxLen; omega)
      clear hM
      have HCF := Lib.hid (show cfO L k = M by unfold cfO; rw [← HM.out, HP.out, rcR_zero, HOO.out])
      have xb0 : wr.cell? ⟨(w.heap.size), 0, none⟩ = some (.slice va V.length vc) := H27.out.c 0 rfl
      have xb1 : wr.cell? ⟨(w.heap.size), 1, none⟩ = some (.slice (some ⟨b1, o1, none⟩) L.length sc) := H27.out.c 1 rfl
      have zb : (w.heap.size) < wr.heap.size := H27.out.2.2
      have xo0 : wr.cell? ⟨(u2.heap.size), 0, none⟩ = some (.int .i64 oo.a) := H29.out.c 0 rfl
      have xo1 : wr.cell? ⟨(u2.heap.size), 1, none⟩ = some (.int .i64 oo.b) := H29.out.c 1 rfl
      have xo2 : wr.cell? ⟨(u2.heap.size), 2, none⟩ = some (.int .i64 oo.c) := H29.out.c 2 rfl
      have xo3 : wr.cell? ⟨(u2.heap.size), 3, none⟩ = some (.int .i64 oo.d) := H29.out.c 3 rfl
      have zo : (u2.heap.size) < wr.heap.size := H29.out.2.2
      have t1 : ¬ (i : Int) < (L.length : Int) := by omega
      have t2 : decide ((i : Int) < (L.length : Int)) = false := decide_eq_false t1
      have HR2 := Lib.hid (HRW.out.alloc (.cells #[.int .i64 oo.a, .int .i64 oo.b, .int .i64 (-1), .int .i64 oo.d] 27))
      have HNB := Lib.hid (show ∀ j u, ([.int .i64 oo.a, .int .i64 oo.b, .int .i64 (-1), .int .i64 oo.d] : List Value)[j]? = some u → (wr.alloc (.cells #[.int .i64 oo.a, .int .i64 oo.b, .int .i64 (-1), .int .i64 oo.d] 27)).cell? ((⟨wr.heap.size, 0, none⟩ : Addr).add j) = some u from World.news_of_block (BoxN.new wr #[.int .i64 oo.a, .int .i64 oo.b, .int .i64 (-1), .int .i64 oo.d] 27))
      have HUS := Lib.hid (HW.out.size)
      go_wp2_with (at_builtin; refine wpList_append_own _ rfl _ _ 23 rfl U.heap.size 27 i0 _ 4 32 Try.underlying23 hi0 hz0 hz1 hz2 rfl (by decide) _ _ _ rfl HR2.out ⟨wr.heap.size, 0, none⟩ 1 1 [.int .i64 oo.a, .int .i64 oo.b, .int .i64 (-1), .int .i64 oo.d] rfl rfl HNB.out (by simp [Value.oneCell']) (by unfold maxLen; omega) (by omega) (by have := HUS.out; simp; omega) ?_; intro v8 w8 ho8 hg8 _; have ho9 : w8.ownsRow U.heap.size 27 4 v8 M.length (ocs M) := (by rw [← HM.out, List.length_append, ocs_app, ocs_one]; exact ho8); clear ho8; obtain ⟨la8, lc8, rfl⟩ := row_slice ho9; have HO8 := Lib.hid (ods_of_row rfl ho9); have HB8 := Lib.hid (below_own (Nat.le_refl _) HW.out HRW.out hg8); clear ho9 hg8)
      refine (of_any la8 lc8 M _ HO8.out HML.out).mono ?_
      rintro e u9 ⟨ua, uc, rfl, b9, hr9⟩
      have HB9 := Lib.hid (keep2 b9 HB8.out)
      clear b9
      have HR9 := Lib.hid hr9
      clear hr9 xb0 xb1 zb xo0 xo1 xo2 xo3 zo
      have HZ9 := Lib.hid (H22.out.step HB9.out)
      have HX9 := Lib.hid (H23.out.step HB9.out)
      have HW9 := Lib.hid (keep2 HB9.out H24.out)
      have c0 := HZ9.out.c 0 rfl
      have c1 := HZ9.out.c 1 rfl
      have f0 := HZ9.out.f 0 (by simp)
      have f1 := HZ9.out.f 1 (by simp)
      have cz := HZ9.out.2.2
      go_wp2
      refine (fun (h : ∀ X : World, Cs X (w.heap.size + 1) #[.slice ua (rvl M).length uc, .slice la8 M.length lc8] → Chg (w.heap.size + 1) u9 X → bodyPost Try.prog Try.f14 _ Exit.ret _ X) => h _ (Cs.set (Cs.set HZ9.out 0 (by simp) (.slice ua (rvl M).length uc) rfl) 1 (by simp) (.slice la8 M.length lc8) (vs' := #[.slice ua (rvl M).length uc, .slice la8 M.length lc8]) rfl) (((Chg.of (Below.refl _ u9)).set 0 _).set 1 _)) ?_
      intro X hC hB
      have k0 : X.cell? ⟨(w.heap.size + 1), 0, none⟩ = some (.slice ua (rvl M).length uc) := hC.c 0 rfl
      have k1 : X.cell? ⟨(w.heap.size + 1), 1, none⟩ = some (.slice la8 M.length lc8) := hC.c 1 rfl
      exact bodyPost_ret (v := .tuple #[.agg #[.slice ua (rvl M).length uc, .slice la8 M.length lc8], .int .i64 0]) (by simp [results, Try.results14, go_sem, k0, k1]) rfl (by rw [HCF.out]; exact ⟨ua, uc, la8, lc8, rfl, HW9.out.trans (hB.below (by omega) HW9.out.size), Rb.kept HR9.out hB (sl_of HX9.out)⟩)
    obtain ⟨x0, x1, x2, x3⟩ : wr.cell? ⟨b1, o1 + i * 4, none⟩ = some (.int .i64 (L.getD i zO).a) ∧ wr.cell? ⟨b1, o1 + i * 4 + 1, none⟩ = some (.int .i64 (L.getD i zO).b) ∧ wr.cell? ⟨b1, o1 + i * 4 + 2, none⟩ = some (.int .i64 (L.getD i zO).c) ∧ wr.cell? ⟨b1, o1 + i * 4 + 3, none⟩ = some (.int .i64 (L.getD i zO).d) := by
      obtain ⟨a2, cc2, hv2, -, -, hcs2⟩ := H26.out.2
      have ea : some (⟨b1, o1, none⟩ : Addr) = a2 := by simp at hv2; exact hv2.1
      obtain ⟨b2, o2, hx, hx2⟩ := hcs2 (by intro e; rw [e] at hlt; simp at hlt)
      rw [← ea] at hx
      cases hx
      exact hx2 i _ (od_get hlt)
    have xz := World.block_lt_of_cell? _ _ x0
    have t1 : (i : Int) < (L.length : Int) := by omega
    have HAT := Lib.hid (fun (e9 : i = k) => (show rcR L k i = rcR L k (i + 1) by rw [e9]; exact rcR_at))
    have HNO := Lib.hid (fun (e9 : i ≠ k) => rcR_no (k := k) hlt e9)
    have HST := Lib.hid (fun (e9 : i < k) => rcR_st (k := k) hlt e9)
    have HGO := Lib.hid (fun (e9 : i ≠ k) => rcR_go (k := k) hlt e9)
    rw [HOO.out] at HNO HGO
    have HIL := Lib.hid hlt
    obtain ⟨x, hx⟩ : ∃ z9, L.getD i zO = z9 := ⟨_, rfl⟩
    rw [hx] at x0 x1 x2 x3 HNO HST HGO
    clear hx
    have HW16 := Lib.hid (show wrap64 (oo.a - 16) = oo.a - 16 from IntWalk.wrap64_in _ (by have h1 := HOA.out; rw [HOO.out] at h1; omega))
    have xb0 : wr.cell? ⟨(w.heap.size), 0, none⟩ = some (.slice va V.length vc) := H27.out.c 0 rfl
    have xb1 : wr.cell? ⟨(w.heap.size), 1, none⟩ = some (.slice (some ⟨b1, o1, none⟩) L.length sc) := H27.out.c 1 rfl
    have zb : (w.heap.size) < wr.heap.size := H27.out.2.2
    have H32 := Lib.hid (H26.out.step (al wr (.cells #[.int .i64 x.a, .int .i64 x.b, .int .i64 x.c, .int .i64 x.d] 27)))
    clear H26
    have H33 := Lib.hid (H27.out.step (al wr (.cells #[.int .i64 x.a, .int .i64 x.b, .int .i64 x.c, .int .i64 x.d] 27)))
    clear H27
    have H34 := Lib.hid (H28.out.step (al wr (.cells #[.int .i64 x.a, .int .i64 x.b, .int .i64 x.c, .int .i64 x.d] 27)))
    clear H28
    have H35 := Lib.hid (H30.out.step (al wr (.cells #[.int .i64 x.a, .int .i64 x.b, .int .i64 x.c, .int .i64 x.d] 27)))
    clear H30
    have H36 := Lib.hid (H29.out.step (al wr (.cells #[.int .i64 x.a, .int .i64 x.b, .int .i64 x.c, .int .i64 x.d] 27)))
    clear H29
    have H37 := Lib.hid (row_step HRW.out (al wr (.cells #[.int .i64 x.a, .int .i64 x.b, .int .i64 x.c, .int .i64 x.d] 27)))
    clear HRW
    have H38 := Lib.hid (keep2 (al wr (.cells #[.int .i64 x.a, .int .i64 x.b, .int .i64 x.c, .int .i64 x.d] 27)) HW.out)
    clear HW
    have H39 := Lib.hid (keep2 (al wr (.cells #[.int .i64 x.a, .int .i64 x.b, .int .i64 x.c, .int .i64 x.d] 27)) H31.out)
    clear H31
    have H40 := Lib.hid (Cs.new wr (wr.heap.size) #[.int .i64 x.a, .int .i64 x.b, .int .i64 x.c, .int .i64 x.d] 27 (by simp))
    go_upto_region 12 with fail
    obtain ⟨W5, hW5⟩ : ∃ z9, (wr.alloc (.cells #[.int .i64 x.a, .int .i64 x.b, .int .i64 x.c, .int .i64 x.d] 27)) = z9 := ⟨_, rfl⟩
    rw [hW5] at H32 H33 H34 H35 H36 H37 H38 H40 H39 ⊢
    clear hW5 x0 x1 x2 x3 xz xb0 xb1 zb
    have xx0 : W5.cell? ⟨(wr.heap.size), 0, none⟩ = some (.int .i64 x.a) := H40.out.c 0 rfl
    have xx1 : W5.cell? ⟨(wr.heap.size), 1, none⟩ = some (.int .i64 x.b) := H40.out.c 1 rfl
    have xx2 : W5.cell? ⟨(wr.heap.size), 2, none⟩ = some (.int .i64 x.c) := H40.out.c 2 rfl
    have xx3 : W5.cell? ⟨(wr.heap.size), 3, none⟩ = some (.int .i64 x.d) := H40.out.c 3 rfl
    have zx : (wr.heap.size) < W5.heap.size := H40.out.2.2
    have xo0 : W5.cell? ⟨(u2.heap.size), 0, none⟩ = some (.int .i64 oo.a) := H36.out.c 0 rfl
    have xo1 : W5.cell? ⟨(u2.heap.size), 1, none⟩ = some (.int .i64 oo.b) := H36.out.c 1 rfl
    have xo2 : W5.cell? ⟨(u2.heap.size), 2, none⟩ = some (.int .i64 oo.c) := H36.out.c 2 rfl
    have xo3 : W5.cell? ⟨(u2.heap.size), 3, none⟩ = some (.int .i64 oo.d) := H36.out.c 3 rfl
    have zo : (u2.heap.size) < W5.heap.size := H36.out.2.2
    go_cut [11] from 39 to 51 (fun p wc => p = .bool (cfS oo x) ∧ wc = W5)
    case first =>
      have hw16 := HW16.out
      have hw17 : IntKind.i64.wrap (oo.a - 16) = oo.a - 16 := IntWalk.i64_in _ (by have h1 := HOA.out; rw [HOO.out] at h1; omega)
      by_cases g1 : oo.a - 16 < x.a
      rotate_left
      · have g1b : decide (oo.a - 16 < x.a) = false := decide_eq_false g1
        have HV := Lib.hid (show cfS oo x = false by unfold cfS; rw [g1b]; rfl)
        go_wp2
        go_meet
        exact ⟨by rw [HV.out], rfl⟩
      have g1b : decide (oo.a - 16 < x.a) = true := decide_eq_true g1
      by_cases g2 : oo.b ≤ x.b
      rotate_left
      · have g2b : decide (oo.b ≤ x.b) = false := decide_eq_false g2
        have HV := Lib.hid (show cfS oo x = false by unfold cfS; rw [g2b]; simp)
        go_wp2
        go_meet
        exact ⟨by rw [HV.out], rfl⟩
      have g2b : decide (oo.b ≤ x.b) = true := decide_eq_true g2
      have HV := Lib.hid (show cfS oo x = true by unfold cfS; rw [g1b, g2b]; rfl)
      go_wp2
      go_meet
      exact ⟨by rw [HV.out], rfl⟩
    case rest =>
      obtain ⟨rfl, hwc⟩ := hcut
      subst hwc
      clear xx0 xx1 xx2 xx3 zx xo0 xo1 xo2 xo3 zo
      have hi1000 : i ≤ 1000 := by have := HL20.out; omega
      by_cases hik : i = k
      · skip
        have g1 : ((i : Int) == (k : Int)) = true := by rw [hik]; simp
        have g2 : ((i : Int) != (k : Int)) = false := by rw [hik]; simp
        have HIK := Lib.hid hik
        clear hik
        have HNE := Lib.hid (show P ++ rcR L k (i + 1) = rcR L k 0 by rw [← HN.out, HAT.out HIK.out])
        go_wp2
        go_roundw
        case rel => exact ⟨i + 1, P, HIL.out, by omega, by go_num, H37, HNE, H38⟩
        case measure => have := HIL.out; simp [intOf]; omega
      have g1 : ((i : Int) == (k : Int)) = false := by simp; omega
      have g2 : ((i : Int) != (k : Int)) = true := by simp; omega
      have HIK := Lib.hid hik
      cases hs : cfS oo x
      · skip
        have HNE := Lib.hid (show P ++ rcR L k (i + 1) = rcR L k 0 by rw [← HN.out, HNO.out HIK.out hs])
        go_wp2
        go_roundw
        case rel => exact ⟨i + 1, P, HIL.out, by omega, by go_num, H37, HNE, H38⟩
        case measure => have := HIL.out; simp [intOf]; omega
      cases hst : stB x
      · skip
        have xx0 : wc.cell? ⟨(wr.heap.size), 0, none⟩ = some (.int .i64 x.a) := H40.out.c 0 rfl
        have xx1 : wc.cell? ⟨(wr.heap.size), 1, none⟩ = some (.int .i64 x.b) := H40.out.c 1 rfl
        have xx2 : wc.cell? ⟨(wr.heap.size), 2, none⟩ = some (.int .i64 x.c) := H40.out.c 2 rfl
        have xx3 : wc.cell? ⟨(wr.heap.size), 3, none⟩ = some (.int .i64 x.d) := H40.out.c 3 rfl
        have zx : (wr.heap.size) < wc.heap.size := H40.out.2.2
        go_wp2_with fail
        refine (settledR_any x _).mono ?_
        rintro e u6 ⟨rfl, b6⟩
        clear xx0 xx1 xx2 xx3 zx
        have H41 := Lib.hid (H32.out.step b6)
        clear H32
        have H42 := Lib.hid (H33.out.step b6)
        clear H33
        have H43 := Lib.hid (H34.out.step b6)
        clear H34
        have H44 := Lib.hid (H35.out.step b6)
        clear H35
        have H45 := Lib.hid (H36.out.step b6)
        clear H36
        have H46 := Lib.hid (row_step H37.out b6)
        clear H37
        have H47 := Lib.hid (keep2 b6 H38.out)
        clear H38
        have H48 := Lib.hid (H40.out.step b6)
        clear H40
        have H49 := Lib.hid (keep2 b6 H39.out)
        clear H39
        clear b6
        rw [hst]
        have HGX := Lib.hid (HGO.out HIK.out hs (.inl hst))
        have xx0 : u6.cell? ⟨(wr.heap.size), 0, none⟩ = some (.int .i64 x.a) := H48.out.c 0 rfl
        have xx1 : u6.cell? ⟨(wr.heap.size), 1, none⟩ = some (.int .i64 x.b) := H48.out.c 1 rfl
        have xx2 : u6.cell? ⟨(wr.heap.size), 2, none⟩ = some (.int .i64 x.c) := H48.out.c 2 rfl
        have xx3 : u6.cell? ⟨(wr.heap.size), 3, none⟩ = some (.int .i64 x.d) := H48.out.c 3 rfl
        have zx : (wr.heap.size) < u6.heap.size := H48.out.2.2
        have HR2 := Lib.hid (H46.out.alloc (.cells #[.int .i64 x.a, .int .i64 x.b, .int .i64 x.c, .int .i64 x.d] 27))
        have HNB := Lib.hid (show ∀ j u, ([.int .i64 x.a, .int .i64 x.b, .int .i64 x.c, .int .i64 x.d] : List Value)[j]? = some u → (u6.alloc (.cells #[.int .i64 x.a, .int .i64 x.b, .int .i64 x.c, .int .i64 x.d] 27)).cell? ((⟨u6.heap.size, 0, none⟩ : Addr).add j) = some u from World.news_of_block (BoxN.new u6 #[.int .i64 x.a, .int .i64 x.b, .int .i64 x.c, .int .i64 x.d] 27))
        have HUS := Lib.hid (H47.out.size)
        have hP9 : P.length ≤ 1000 := by omega
        go_wp2_with (at_builtin; refine wpList_append_own _ rfl _ _ 23 rfl U.heap.size 27 i0 _ 4 32 Try.underlying23 hi0 hz0 hz1 hz2 rfl (by decide) _ _ _ rfl HR2.out ⟨u6.heap.size, 0, none⟩ 1 1 [.int .i64 x.a, .int .i64 x.b, .int .i64 x.c, .int .i64 x.d] rfl rfl HNB.out (by simp [Value.oneCell']) (by unfold maxLen; omega) (by omega) (by have := HUS.out; simp; omega) ?_; intro v8 w8 ho8 hg8 _; have HR8 := Lib.hid ho8; have HB8 := Lib.hid (below_own (Nat.le_refl _) H47.out H46.out hg8); clear ho8 hg8)
        have HNE := Lib.hid (show (P ++ [x]) ++ rcR L k (i + 1) = rcR L k 0 by rw [← HN.out, HGX.out]; simp)
        go_roundw
        case rel => exact ⟨i + 1, P ++ [x], HIL.out, (by simp; omega), by go_num, (by rw [List.length_append, ocs_app, ocs_one]; exact HR8), HNE, HB8⟩
        case measure => have := HIL.out; simp [intOf]; omega
      have xx0 : wc.cell? ⟨(wr.heap.size), 0, none⟩ = some (.int .i64 x.a) := H40.out.c 0 rfl
      have xx1 : wc.cell? ⟨(wr.heap.size), 1, none⟩ = some (.int .i64 x.b) := H40.out.c 1 rfl
      have xx2 : wc.cell? ⟨(wr.heap.size), 2, none⟩ = some (.int .i64 x.c) := H40.out.c 2 rfl
      have xx3 : wc.cell? ⟨(wr.heap.size), 3, none⟩ = some (.int .i64 x.d) := H40.out.c 3 rfl
      have zx : (wr.heap.size) < wc.heap.size := H40.out.2.2
      go_wp2_with fail
      refine (settledR_any x _).mono ?_
      rintro e u6 ⟨rfl, b6⟩
      clear xx0 xx1 xx2 xx3 zx
      have H41 := Lib.hid (H32.out.step b6)
      clear H32
      have H42 := Lib.hid (H33.out.step b6)
      clear H33
      have H43 := Lib.hid (H34.out.step b6)
      clear H34
      have H44 := Lib.hid (H35.out.step b6)
      clear H35
      have H45 := Lib.hid (H36.out.step b6)
      clear H36
      have H46 := Lib.hid (row_step H37.out b6)
      clear H37
      have H47 := Lib.hid (keep2 b6 H38.out)
      clear H38
      have H48 := Lib.hid (H40.out.step b6)
      clear H40
      have H49 := Lib.hid (keep2 b6 H39.out)
      clear H39
      clear b6
      rw [hst]
      by_cases hlk : i < k
      · skip
        have g3 : decide ((i : Int) < (k : Int)) = true := decide_eq_true (by omega)
        have g4 : (i : Int) < (k : Int) := by omega
        have HNE := Lib.hid (show P ++ rcR L k (i + 1) = rcR L k 0 by rw [← HN.out, HST.out hlk hst])
        go_wp2
        go_roundw
        case rel => exact ⟨i + 1, P, HIL.out, by omega, by go_num, H46, HNE, H47⟩
        case measure => have := HIL.out; simp [intOf]; omega
      have g3 : decide ((i : Int) < (k : Int)) = false := decide_eq_false (by omega)
      have g4 : ¬ (i : Int) < (k : Int) := by omega
      have HKI := Lib.hid (show k < i by omega)
      have HGX := Lib.hid (HGO.out HIK.out hs (.inr HKI.out))
      have xx0 : u6.cell? ⟨(wr.heap.size), 0, none⟩ = some (.int .i64 x.a) := H48.out.c 0 rfl
      have xx1 : u6.cell? ⟨(wr.heap.size), 1, none⟩ = some (.int .i64 x.b) := H48.out.c 1 rfl
      have xx2 : u6.cell? ⟨(wr.heap.size), 2, none⟩ = some (.int .i64 x.c) := H48.out.c 2 rfl
      have xx3 : u6.cell? ⟨(wr.heap.size), 3, none⟩ = some (.int .i64 x.d) := H48.out.c 3 rfl
      have zx : (wr.heap.size) < u6.heap.size := H48.out.2.2
      have HR2 := Lib.hid (H46.out.alloc (.cells #[.int .i64 x.a, .int .i64 x.b, .int .i64 x.c, .int .i64 x.d] 27))
      have HNB := Lib.hid (show ∀ j u, ([.int .i64 x.a, .int .i64 x.b, .int .i64 x.c, .int .i64 x.d] : List Value)[j]? = some u → (u6.alloc (.cells #[.int .i64 x.a, .int .i64 x.b, .int .i64 x.c, .int .i64 x.d] 27)).cell? ((⟨u6.heap.size, 0, none⟩ : Addr).add j) = some u from World.news_of_block (BoxN.new u6 #[.int .i64 x.a, .int .i64 x.b, .int .i64 x.c, .int .i64 x.d] 27))
      have HUS := Lib.hid (H47.out.size)
      have hP9 : P.length ≤ 1000 := by omega
      go_wp2_with (at_builtin; refine wpList_append_own _ rfl _ _ 23 rfl U.heap.size 27 i0 _ 4 32 Try.underlying23 hi0 hz0 hz1 hz2 rfl (by decide) _ _ _ rfl HR2.out ⟨u6.heap.size, 0, none⟩ 1 1 [.int .i64 x.a, .int .i64 x.b, .int .i64 x.c, .int .i64 x.d] rfl rfl HNB.out (by simp [Value.oneCell']) (by unfold maxLen; omega) (by omega) (by have := HUS.out; simp; omega) ?_; intro v8 w8 ho8 hg8 _; have HR8 := Lib.hid ho8; have HB8 := Lib.hid (below_own (Nat.le_refl _) H47.out H46.out hg8); clear ho8 hg8)
      have HNE := Lib.hid (show (P ++ [x]) ++ rcR L k (i + 1) = rcR L k 0 by rw [← HN.out, HGX.out]; simp)
      go_roundw
      case rel => exact ⟨i + 1, P ++ [x], HIL.out, (by simp; omega), by go_num, (by rw [List.length_append, ocs_app, ocs_one]; exact HR8), HNE, HB8⟩
      case measure => have := HIL.out; simp [intOf]; omega

theorem rconfirmed_q {V V' : List Int} {L M' : List Od} (q : Int) {E : Int} (hE : cnE V L q = E) (hV' : rV E (cfM q L) = V') (hM' : rM E (cfM q L) = M') (va : Option Addr) (vc : Nat) (sa : Option Addr) (sc : Nat) (w : World) (h : Rb V L va vc sa sc w) (h9 : L.length ≤ 300) (h8 : V.length ≤ 300) :
    Calls Try.prog 14 #[.agg #[.slice va V.length vc, .slice sa L.length sc], .int .i64 q] w (ChQ V' M' E w) := by
  subst hV' hM' hE
  have h9' : L.length ≤ maxLen := by unfold maxLen; omega
  have h8' : V.length ≤ maxLen := by unfold maxLen; omega
  cases hw : isW V L
  · have hE : cnE V L q = 1 := by rw [cnE_W, if_neg (by rw [hw]; exact Bool.false_ne_true)]
    rw [hE]
    refine (rconf_no va vc V sa sc L q w h h9' h8' hw).mono ?_
    rintro e w' ⟨rfl, b⟩
    exact chq_zero (by decide) rfl rfl b
  · have hE : cnE V L q = cfE q L := by rw [cnE_W, if_pos hw]
    rw [hE]
    cases hf : fsI (cfP q) L 0 with
    | none =>
      have h1 : fsP (cfP q) L = -1 := by unfold fsP; rw [hf]
      have h2 : cfE q L = 27 := by unfold cfE; rw [hf]
      rw [h2]
      refine (rconf_miss va vc V sa sc L q w h h9' h8' hw h1).mono ?_
      rintro e w' ⟨rfl, b⟩
      exact chq_zero (by decide) rfl rfl b
    | some i =>
      have h1 : fsP (cfP q) L = i := by unfold fsP; rw [hf]
      have h2 : cfE q L = 0 := by unfold cfE; rw [hf]
      have h3 : cfM q L = cfO L i := by unfold cfM; rw [hf]
      have hi : i < L.length := by have := (fsI_some.1 hf).2.1; omega
      have h4 := conf_ok hw h2
      rw [h3, rM_W _ rfl] at h4
      have h5 := ((isW_iff _ _).1 h4).2.2.2.2.2.2
      rw [h2, h3, rM_W _ rfl, h5]
      exact rconf_go va vc V sa sc L q w h h9' h8' hw i h1 hi
end Go.Proofs.Ytigpopemllamdaa
