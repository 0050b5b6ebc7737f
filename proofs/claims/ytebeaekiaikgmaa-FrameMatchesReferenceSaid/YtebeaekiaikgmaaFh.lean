/- Frames as bytes: 'Decode'. -/
import Derived.Test.YtebeaekiaikgmaaFg
namespace Go.Proofs.Ytebeaekiaikgmaa
open Go.RowKit

theorem cs_store6 {w : World} {R : Nat} {x0 x1 x2 x3 x4 x5 : Value} (h : Cs w R #[x0, x1, x2, x3, x4, x5]) (y0 y1 y2 y3 y4 y5 : Value) : Cs ((((((w.setCell ⟨R, 0, none⟩ y0).setCell ⟨R, 1, none⟩ y1).setCell ⟨R, 2, none⟩ y2).setCell ⟨R, 3, none⟩ y3).setCell ⟨R, 4, none⟩ y4).setCell ⟨R, 5, none⟩ y5) R #[y0, y1, y2, y3, y4, y5] := by
  have h0 := Cs.set h 0 (by simp) y0 (vs' := #[y0, x1, x2, x3, x4, x5]) rfl
  have h1 := Cs.set h0 1 (by simp) y1 (vs' := #[y0, y1, x2, x3, x4, x5]) rfl
  have h2 := Cs.set h1 2 (by simp) y2 (vs' := #[y0, y1, y2, x3, x4, x5]) rfl
  have h3 := Cs.set h2 3 (by simp) y3 (vs' := #[y0, y1, y2, y3, x4, x5]) rfl
  have h4 := Cs.set h3 4 (by simp) y4 (vs' := #[y0, y1, y2, y3, y4, x5]) rfl
  exact Cs.set h4 5 (by simp) y5 rfl
theorem row_store6 {w : World} {R base e s n : Nat} {v : Value} {xs : List Value} (h : w.ownsRow base e s v n xs) (hR : R < base) (y0 y1 y2 y3 y4 y5 : Value) : ((((((w.setCell ⟨R, 0, none⟩ y0).setCell ⟨R, 1, none⟩ y1).setCell ⟨R, 2, none⟩ y2).setCell ⟨R, 3, none⟩ y3).setCell ⟨R, 4, none⟩ y4).setCell ⟨R, 5, none⟩ y5).ownsRow base e s v n xs :=
  ownsRow_setCell_below (ownsRow_setCell_below (ownsRow_setCell_below (ownsRow_setCell_below (ownsRow_setCell_below (ownsRow_setCell_below h (a := ⟨R, 0, none⟩) hR _) (a := ⟨R, 1, none⟩) hR _) (a := ⟨R, 2, none⟩) hR _) (a := ⟨R, 3, none⟩) hR _) (a := ⟨R, 4, none⟩) hR _) (a := ⟨R, 5, none⟩) hR _
theorem bel_store6 {w w0 : World} {R B : Nat} (h : Below B w0 w) (hR : B ≤ R) (y0 y1 y2 y3 y4 y5 : Value) : Below B w0 ((((((w.setCell ⟨R, 0, none⟩ y0).setCell ⟨R, 1, none⟩ y1).setCell ⟨R, 2, none⟩ y2).setCell ⟨R, 3, none⟩ y3).setCell ⟨R, 4, none⟩ y4).setCell ⟨R, 5, none⟩ y5) :=
  (((((h.setCell (p := ⟨R, 0, none⟩) hR _).setCell (p := ⟨R, 1, none⟩) hR _).setCell (p := ⟨R, 2, none⟩) hR _).setCell (p := ⟨R, 3, none⟩) hR _).setCell (p := ⟨R, 4, none⟩) hR _).setCell (p := ⟨R, 5, none⟩) hR _
/-- What bytes say. -/
def bodyL (l : List Int) (n : Nat) : List Int := (List.range n).map fun i => num4 l (17 + 4 * i) - 1000000000
theorem bodyL_len (l : List Int) (n : Nat) : (bodyL l n).length = n := by simp [bodyL]
theorem bodyL_take {l : List Int} {n k : Nat} (h : k < n) : (bodyL l n).take (k + 1) = (bodyL l n).take k ++ [num4 l (17 + 4 * k) - 1000000000] := by
  rw [List.take_succ_eq_append_getElem (by rw [bodyL_len]; exact h)]
  simp [bodyL]
def FB (n0 F : Nat) (a b c d : Int) (L : List Int) (t : Int) (W : World) : Prop := ∃ bv, Cs W F #[.int .i64 a, .int .i64 b, .int .i64 c, .int .i64 d, bv, .int .i64 t] ∧ W.ownsRow n0 3 1 bv L.length (L.map (Value.int .i64))
def decE (l : List Int) (n : Nat) : List Int := encO (num4 l 0) (num4 l 4) (num4 l 8) (num4 l 12) (bodyL l n) (num4 l (17 + 4 * n))
/-- What 'Decode' returns: a frame and its list. -/
def DcP (w : World) (a b c d : Int) (l : List Int) (t er : Int) (e : Ending) (w' : World) : Prop :=
  ∃ u, e = .returned (.tuple #[.agg #[.int .i64 a, .int .i64 b, .int .i64 c, .int .i64 d, u, .int .i64 t], .int .i64 er]) ∧ IntsAt w' u l ∧ Below w.heap.size w w'
def DcQ (w : World) (l : List Int) (n : Nat) (e : Ending) (w' : World) : Prop := if decE l n = l then DcP w (num4 l 0) (num4 l 4) (num4 l 8) (num4 l 12) (bodyL l n) (num4 l (17 + 4 * n)) 0 e w' else DcP w 0 0 0 0 [] 0 24 e w'
theorem DcQ.yes {w w' : World} {l : List Int} {n : Nat} {e : Ending} (h : decE l n = l) (k : DcP w (num4 l 0) (num4 l 4) (num4 l 8) (num4 l 12) (bodyL l n) (num4 l (17 + 4 * n)) 0 e w') : DcQ w l n e w' := by unfold DcQ; rw [if_pos h]; exact k
theorem DcQ.no {w w' : World} {l : List Int} {n : Nat} {e : Ending} (h : ¬ decE l n = l) (k : DcP w 0 0 0 0 [] 0 24 e w') : DcQ w l n e w' := by unfold DcQ; rw [if_neg h]; exact k
theorem encO_by (a b c d : Int) (l : List Int) (t : Int) : IsBy (encO a b c d l t) := by
  unfold encO
  split
  · exact encF_by _ _ _ _ _ _
  · exact fun x hx => by cases hx
set_option maxRecDepth 100000 in
set_option maxHeartbeats 8000000 in
theorem decode_short (v : Value) (l : List Int) (w : World) (h : BysAt w v l) (hb : IsBy l) (h9 : l.length ≤ 2000) (hs : l.length < 23) : Calls Try.prog 13 #[v] w (DcP w 0 0 0 0 [] 0 24) := by
  have HV := Lib.hid h
  obtain ⟨a, cap, rfl, hcp, hm, hc⟩ := h
  have HR0 := Lib.hid (Cs.new w w.heap.size #[.int .i64 0, .int .i64 0, .int .i64 0, .int .i64 0, .slice none 0 0, .int .i64 0] 24 rfl)
  have HB0 := Lib.hid (al w (.cells #[.int .i64 0, .int .i64 0, .int .i64 0, .int .i64 0, .slice none 0 0, .int .i64 0] 24))
  have g1 : decide ((l.length : Int) < 23) = true := by simp; omega
  clear hc hcp hm h9 hs
  have r0 := HR0.out.c 0 rfl
  have r1 := HR0.out.c 1 rfl
  have r2 := HR0.out.c 2 rfl
  have r3 := HR0.out.c 3 rfl
  have r4 := HR0.out.c 4 rfl
  have r5 := HR0.out.c 5 rfl
  have p0 := HR0.out.f 0 (by simp)
  have p1 := HR0.out.f 1 (by simp)
  have p2 := HR0.out.f 2 (by simp)
  have p3 := HR0.out.f 3 (by simp)
  have p4 := HR0.out.f 4 (by simp)
  have p5 := HR0.out.f 5 (by simp)
  have rz := HR0.out.2.2
  go_enter Try.func13, Try.ntmps13
  go_wp2_with fail
  exact bodyPost_ret (v := .tuple #[.agg #[.int .i64 0, .int .i64 0, .int .i64 0, .int .i64 0, .slice none 0 0, .int .i64 0], .int .i64 24]) (by simp [results, Try.results13, go_sem, r0, r1, r2, r3, r4, r5]) rfl ⟨_, rfl, ints_nil _, HB0.out⟩
set_option maxRecDepth 100000 in
set_option maxHeartbeats 8000000 in
theorem decode_len (v : Value) (l : List Int) (w : World) (h : BysAt w v l) (hb : IsBy l) (h9 : l.length ≤ 2000) (hs : 23 ≤ l.length) (hn : (l.length : Int) ≠ 23 + 4 * l.getD 16 0) : Calls Try.prog 13 #[v] w (DcP w 0 0 0 0 [] 0 24) := by
  have HV := Lib.hid h
  obtain ⟨a, cap, rfl, hcp, hm, hc⟩ := h
  have HR0 := Lib.hid (Cs.new w w.heap.size #[.int .i64 0, .int .i64 0, .int .i64 0, .int .i64 0, .slice none 0 0, .int .i64 0] 24 rfl)
  have HB0 := Lib.hid (al w (.cells #[.int .i64 0, .int .i64 0, .int .i64 0, .int .i64 0, .slice none 0 0, .int .i64 0] 24))
  obtain ⟨b, off, rfl, hx⟩ := hc (by intro e; rw [e] at hs; simp at hs)
  have x0 := keep1 HB0.out (hx 16 _ (getD_of (show 16 < l.length by omega)))
  have hb16 := by_get hb 16
  obtain ⟨n, hn16⟩ : ∃ n, l.getD 16 0 = n := ⟨_, rfl⟩
  rw [hn16] at x0 hn hb16
  have g1 : decide ((l.length : Int) < 23) = false := by simp; omega
  have g2 : wrap64 (4 * n) = 4 * n := IntWalk.wrap64_in _ (by omega)
  have g3 : wrap64 (23 + 4 * n) = 23 + 4 * n := IntWalk.wrap64_in _ (by omega)
  have g4 : ((l.length : Int) == 23 + 4 * n) = false := by simpa using hn
  have g5 : ((l.length : Int) != 23 + 4 * n) = true := by simpa using hn
  have g6 : ((l.length : Int) = 23 + 4 * n) = False := by simpa using hn
  have g7 : 16 < l.length := by omega
  have g8 : (16 : Int) < l.length := by omega
  clear hc hcp hm h9 hs hx hn16 hn
  have r0 := HR0.out.c 0 rfl
  have r1 := HR0.out.c 1 rfl
  have r2 := HR0.out.c 2 rfl
  have r3 := HR0.out.c 3 rfl
  have r4 := HR0.out.c 4 rfl
  have r5 := HR0.out.c 5 rfl
  have p0 := HR0.out.f 0 (by simp)
  have p1 := HR0.out.f 1 (by simp)
  have p2 := HR0.out.f 2 (by simp)
  have p3 := HR0.out.f 3 (by simp)
  have p4 := HR0.out.f 4 (by simp)
  have p5 := HR0.out.f 5 (by simp)
  have rz := HR0.out.2.2
  go_enter Try.func13, Try.ntmps13
  go_wp2_with fail
  exact bodyPost_ret (v := .tuple #[.agg #[.int .i64 0, .int .i64 0, .int .i64 0, .int .i64 0, .slice none 0 0, .int .i64 0], .int .i64 24]) (by simp [results, Try.results13, go_sem, r0, r1, r2, r3, r4, r5]) rfl ⟨_, rfl, ints_nil _, HB0.out⟩
set_option maxRecDepth 100000 in
set_option maxHeartbeats 8000000 in
theorem decode_main (v : Value) (l : List Int) (w : World) (h : BysAt w v l) (hb : IsBy l) (h9 : l.length ≤ 2000) (n : Nat) (hn : l.getD 16 0 = n) (hs : l.length = 23 + 4 * n) : Calls Try.prog 13 #[v] w (DcQ w l n) := by
  have HV := Lib.hid h
  obtain ⟨a, cap, rfl, hcp, hm, hc⟩ := h
  have HR0 := Lib.hid (Cs.new w w.heap.size #[.int .i64 0, .int .i64 0, .int .i64 0, .int .i64 0, .slice none 0 0, .int .i64 0] 24 rfl)
  have HB0 := Lib.hid (al w (.cells #[.int .i64 0, .int .i64 0, .int .i64 0, .int .i64 0, .slice none 0 0, .int .i64 0] 24))
  obtain ⟨b, off, rfl, hx⟩ := hc (by intro e; rw [e] at hs; simp at hs; omega)
  have x0 := keep1 HB0.out (hx 16 _ (getD_of (show 16 < l.length by omega)))
  have hb16 := by_get hb 16
  rw [hn] at x0 hb16
  have g1 : decide ((l.length : Int) < 23) = false := by simp; omega
  have g2 : wrap64 (4 * (n : Int)) = 4 * n := IntWalk.wrap64_in _ (by omega)
  have g3 : wrap64 (23 + 4 * (n : Int)) = 23 + 4 * n := IntWalk.wrap64_in _ (by omega)
  have g4 : ((l.length : Int) == 23 + 4 * n) = true := by simp; omega
  have g5 : ((l.length : Int) != 23 + 4 * n) = false := by simp; omega
  have g6 : ((l.length : Int) = 23 + 4 * n) = True := by simp; omega
  have g7 : 16 < l.length := by omega
  have g8 : (16 : Int) < l.length := by omega
  have xb : b < w.heap.size := World.block_lt_of_cell? _ _ (hx 16 _ (getD_of (show 16 < l.length by omega)))
  have xb2 : b < w.heap.size + 1 := Nat.lt_succ_of_lt xb
  have xb3 : b < w.heap.size + 1 + 1 := Nat.lt_succ_of_lt xb2
  have HNL := Lib.hid (show l.length = 23 + 4 * n ∧ n ≤ 255 from ⟨hs, by omega⟩)
  have HBY := Lib.hid hb
  have HX16 := Lib.hid (hx 16 _ (getD_of (show 16 < l.length by omega)))
  rw [hn] at HX16
  have hn9 : (n : Int) ≤ 255 := hb16.2
  have hn0 : 0 ≤ (n : Int) := hb16.1
  clear hc hcp hm hs hx hn hb16
  replace h9 := Lib.hid h9
  have r0 := HR0.out.c 0 rfl
  have r1 := HR0.out.c 1 rfl
  have r2 := HR0.out.c 2 rfl
  have r3 := HR0.out.c 3 rfl
  have r4 := HR0.out.c 4 rfl
  have r5 := HR0.out.c 5 rfl
  have p0 := HR0.out.f 0 (by simp)
  have p1 := HR0.out.f 1 (by simp)
  have p2 := HR0.out.f 2 (by simp)
  have p3 := HR0.out.f 3 (by simp)
  have p4 := HR0.out.f 4 (by simp)
  have p5 := HR0.out.f 5 (by simp)
  have rz := HR0.out.2.2
  go_enter Try.func13, Try.ntmps13
  go_wp2_with fail
  refine (number_at _ l 0 0 _ (HV.out.step HB0.out) HBY.out (by rfl) (by have := HNL.out; omega) h9.out).mono ?_
  rintro e w' ⟨rfl, rfl⟩
  go_wp2_with fail
  refine (number_at _ l 4 4 _ (HV.out.step HB0.out) HBY.out (by rfl) (by have := HNL.out; omega) h9.out).mono ?_
  rintro e w' ⟨rfl, rfl⟩
  go_wp2_with fail
  refine (number_at _ l 8 8 _ (HV.out.step HB0.out) HBY.out (by rfl) (by have := HNL.out; omega) h9.out).mono ?_
  rintro e w' ⟨rfl, rfl⟩
  go_wp2_with fail
  refine (number_at _ l 12 12 _ (HV.out.step HB0.out) HBY.out (by rfl) (by have := HNL.out; omega) h9.out).mono ?_
  rintro e w' ⟨rfl, rfl⟩
  go_wp2_with fail
  have HF2 := Lib.hid (Cs.new (w.alloc (.cells #[.int .i64 0, .int .i64 0, .int .i64 0, .int .i64 0, .slice none 0 0, .int .i64 0] 24)) (w.heap.size + 1) #[.int .i64 (num4 l 0), .int .i64 (num4 l 4), .int .i64 (num4 l 8), .int .i64 (num4 l 12), .slice none 0 0, .int .i64 0] 24 (by simp))
  have HR2 := Lib.hid (HR0.out.alloc (.cells #[.int .i64 (num4 l 0), .int .i64 (num4 l 4), .int .i64 (num4 l 8), .int .i64 (num4 l 12), .slice none 0 0, .int .i64 0] 24))
  have HB2 := Lib.hid (HB0.out.alloc HB0.out.size (.cells #[.int .i64 (num4 l 0), .int .i64 (num4 l 4), .int .i64 (num4 l 8), .int .i64 (num4 l 12), .slice none 0 0, .int .i64 0] 24))
  have HZ2 := Lib.hid (show w.heap.size + 1 + 1 ≤ ((w.alloc (.cells #[.int .i64 0, .int .i64 0, .int .i64 0, .int .i64 0, .slice none 0 0, .int .i64 0] 24)).alloc (.cells #[.int .i64 (num4 l 0), .int .i64 (num4 l 4), .int .i64 (num4 l 8), .int .i64 (num4 l 12), .slice none 0 0, .int .i64 0] 24)).heap.size by simp)
  clear r0 r1 r2 r3 r4 r5 p0 p1 p2 p3 p4 p5 rz x0 g1 g2 g3 g4 g5 g6 g7 g8 xb xb2 xb3
  obtain ⟨W2, hW2⟩ : ∃ z, ((w.alloc (.cells #[.int .i64 0, .int .i64 0, .int .i64 0, .int .i64 0, .slice none 0 0, .int .i64 0] 24)).alloc (.cells #[.int .i64 (num4 l 0), .int .i64 (num4 l 4), .int .i64 (num4 l 8), .int .i64 (num4 l 12), .slice none 0 0, .int .i64 0] 24)) = z := ⟨_, rfl⟩
  rw [hW2] at HF2 HR2 HB2 HZ2 ⊢
  clear hW2
  obtain ⟨i0, hi, hz0, hz1, hz2⟩ := info_parts infoInt
  have HI := Lib.hid (show _ ∧ _ ∧ _ ∧ _ from ⟨hi, hz0, hz1, hz2⟩)
  obtain ⟨A, hA⟩ : ∃ z, num4 l 0 = z := ⟨_, rfl⟩
  obtain ⟨B, hB⟩ : ∃ z, num4 l 4 = z := ⟨_, rfl⟩
  obtain ⟨C, hC⟩ : ∃ z, num4 l 8 = z := ⟨_, rfl⟩
  obtain ⟨D, hD⟩ : ∃ z, num4 l 12 = z := ⟨_, rfl⟩
  rw [hA, hB, hC, hD] at HF2 ⊢
  have HNM := Lib.hid (show num4 l 0 = A ∧ num4 l 4 = B ∧ num4 l 8 = C ∧ num4 l 12 = D from ⟨hA, hB, hC, hD⟩)
  clear hA hB hC hD hi hz0 hz1 hz2
  have HFB := Lib.hid (show FB (w.heap.size + 1 + 1) (w.heap.size + 1) A B C D [] 0 W2 from ⟨_, HF2.out, World.ownsRow_nil _ _ _ _⟩)
  clear HF2
  go_loopw [5, 34] (fun av kv wr => ∃ k : Nat, k ≤ n ∧ kv = .int .i64 k ∧ av = .int .i64 ((17 + 4 * k : Nat) : Int) ∧ Hid (FB (w.heap.size + 1 + 1) (w.heap.size + 1) A B C D ((bodyL l n).take k) 0 wr) ∧ Hid (Below (w.heap.size + 1) W2 wr)) (fun _ kv _ => n - (intOf kv).toNat)
  case atStart => exact ⟨0, by omega, rfl, rfl, Lib.hid (by rw [List.take_zero]; exact HFB.out), Lib.hid (Below.refl _ _)⟩
  case round =>
    clear HFB
    obtain ⟨k, hk, rfl, rfl, HF, HW⟩ := hrel
    have HK9 := Lib.hid (show k ≤ 255 by have := HNL.out; omega)
    have hkw : wrap64 ((k : Int) + 1) = k + 1 := IntWalk.wrap64_in _ (by have := HK9.out; omega)
    have HK8 := Lib.hid (show ((k + 1 : Nat) : Int) = (k : Int) + 1 by omega)
    have HVW := Lib.hid (HV.out.step (HB2.out.trans (HW.out.mono (Nat.le_succ _))))
    have HSZ := Lib.hid (Nat.le_trans HZ2.out HW.out.size)
    obtain ⟨m, hm⟩ : ∃ m, 17 + 4 * k = m := ⟨_, rfl⟩
    rw [hm]
    by_cases hlt : k < n
    · have HLT := Lib.hid hlt
      have t1 : (k : Int) < n := by omega
      have t2 : decide ((k : Int) < n) = true := by simp; omega
      have HM := Lib.hid (show ((17 + 4 * (k + 1) : Nat) : Int) = (m : Int) + 4 ∧ m + 4 ≤ l.length ∧ m ≤ 2000 from ⟨by omega, by have := HNL.out; omega, by have := HK9.out; omega⟩)
      have hmw : wrap64 ((m : Int) + 4) = m + 4 := IntWalk.wrap64_in _ (by have := HM.out.2.2; omega)
      have HT := Lib.hid (bodyL_take (l := l) hlt)
      rw [hm] at HT
      have HYB := Lib.hid (num4_bd HBY.out m)
      obtain ⟨y, hy⟩ : ∃ y, num4 l m = y := ⟨_, rfl⟩
      rw [hy] at HT HYB
      have HY := Lib.hid hy
      have q1 : IntKind.i64.wrap (y - 1000000000) = y - 1000000000 := IntWalk.i64_in _ (by have := HYB.out; omega)
      have q2 : wrap64 (y - 1000000000) = y - 1000000000 := IntWalk.wrap64_in _ (by have := HYB.out; omega)
      obtain ⟨bv, hC, hrow⟩ := HF.out
      have HLL := Lib.hid (show ((bodyL l n).take k).length = k by rw [List.length_take, bodyL_len]; omega)
      rw [HLL.out] at hrow
      obtain ⟨ba, bc, rfl⟩ := row_slice hrow
      have HRW := Lib.hid hrow
      have HCF := Lib.hid hC
      have x4 := hC.c 4 rfl
      have xz := hC.2.2
      have hB6 := Lib.hid (show Below wr.heap.size wr (wr.drew.alloc (.cells #[.int .i64 (y - 1000000000)] 3)) from keep2 (al _ _) (below_drew _ _))
      have HR6 := Lib.hid (row_step hrow hB6.out)
      have x5 : (wr.drew.alloc (.cells #[.int .i64 (y - 1000000000)] 3)).cell? ⟨w.heap.size + 1, 4, none⟩ = some (.slice ba k bc) := (hC.step hB6.out).c 4 rfl
      have k1 : k + 1 ≤ maxLen := by have := HK9.out; unfold maxLen; omega
      have k2 : (k + 1) * 8 ≤ 140737488355328 := by have := HK9.out; omega
      have k3 := Lib.hid (Nat.le_trans HSZ.out hB6.out.size)
      have HBW := Lib.hid (show Below (w.heap.size + 1 + 1) wr (wr.drew.alloc (.cells #[.int .i64 (y - 1000000000)] 3)) from hB6.out.mono HSZ.out)
      clear hy hk hC hrow hm hlt
      go_wp2_with fail
      go_region_law (first | (go_simp; go_at_call 39; refine (number_at _ l m _ _ (HVW.out.step (below_drew _ _)) HBY.out rfl HM.out.2.1 h9.out).mono ?_; rintro e w3 ⟨rfl, rfl⟩; rw [HY.out]) | (refine step_append_lies _ rfl _ _ 22 rfl (w.heap.size + 1 + 1) 3 i0 (.int .i64 0) 1 8 Try.underlying22 HI.out.1 HI.out.2.1 HI.out.2.2.1 HI.out.2.2.2 rfl (by decide) _ _ _ rfl HR6.out ⟨wr.heap.size, 0, none⟩ 1 1 [.int .i64 (y - 1000000000)] rfl rfl (one_at (Cs.new _ _ _ _ rfl)) (by simp [Value.oneCell']) (by decide) k1 k2 k3.out _ rfl ?_; intro g' cap' w5 hown' hgrow hz9 hz8; clear hz9 hz8; have HN5 := Lib.hid hown'; have HB5 := Lib.hid (HBW.out.grown hgrow k3.out (fun k e => row_own HR6.out e)); have HC5 := Lib.hid (HCF.out.low HB5.out (Nat.lt_succ_self _)); have c5 := HC5.out.c 4 rfl; have f5 := HC5.out.f 4 (by simp); have z5 := HC5.out.2.2; clear hown' hgrow))
      all_goals clear x4 x5 xz k1 k2 q1 q2
      all_goals have HFF := Lib.hid (show FB (w.heap.size + 1 + 1) (w.heap.size + 1) A B C D ((bodyL l n).take (k + 1)) 0 (w5.setCell ⟨w.heap.size + 1, 4, none⟩ (.slice (some ⟨g', 0, none⟩) (k + 1) cap')) from ⟨_, Cs.set HC5.out 4 (by simp) (.slice (some ⟨g', 0, none⟩) (k + 1) cap') rfl, by rw [HT.out, List.length_append, HLL.out, List.map_append]; exact ownsRow_setCell_below HN5.out (a := ⟨w.heap.size + 1, 4, none⟩) (Nat.lt_succ_self _) _⟩)
      all_goals have HBF := Lib.hid (show Below (w.heap.size + 1) W2 (w5.setCell ⟨w.heap.size + 1, 4, none⟩ (.slice (some ⟨g', 0, none⟩) (k + 1) cap')) from (HW.out.trans (HB5.out.mono (Nat.le_succ _))).setCell (p := ⟨w.heap.size + 1, 4, none⟩) (Nat.le_refl _) _)
      all_goals clear c5 f5 z5
      all_goals go_wp2
      all_goals go_roundw
      all_goals first | exact ⟨k + 1, HLT.out, by (first | rw [hkw] | skip); rw [HK8.out], by (first | rw [hmw] | skip); rw [HM.out.1], HFF, HBF⟩ | (have h2 := HLT.out; have h3 := HK8.out; (first | rw [hkw] | skip); simp [intOf]; omega)
    · obtain rfl : k = n := by omega
      have t2 : decide ((k : Int) < k) = false := by simp
      have HM := Lib.hid (show m + 4 ≤ l.length ∧ num4 l m = num4 l (17 + 4 * k) from ⟨by have := HNL.out; omega, by rw [hm]⟩)
      have HFE := Lib.hid (show FB (w.heap.size + 1 + 1) (w.heap.size + 1) A B C D (bodyL l k) 0 wr from by have h := HF.out; rw [List.take_of_length_le (by rw [bodyL_len]; exact Nat.le_refl _)] at h; exact h)
      clear HF hk hlt hkw
      obtain ⟨bv, hC, hrow⟩ := HFE.out
      obtain ⟨ba, bc, rfl⟩ := row_slice hrow
      have HRW := Lib.hid hrow
      have HCF := Lib.hid hC
      have x5 := hC.c 5 rfl
      have y5 := hC.f 5 (by simp)
      have xz := hC.2.2
      clear hC hrow HFE hm
      go_wp2_with fail
      refine (number_at _ l m _ _ HVW.out HBY.out rfl HM.out.1 h9.out).mono ?_
      rintro e w' ⟨rfl, rfl⟩
      obtain ⟨T, hT⟩ : ∃ z, num4 l m = z := ⟨_, rfl⟩
      rw [hT]
      have HTT := Lib.hid (show num4 l (17 + 4 * k) = T by rw [← HM.out.2, hT])
      clear hT
      have HC6 := Lib.hid (Cs.set HCF.out 5 (by simp) (.int .i64 T) (vs' := #[.int .i64 A, .int .i64 B, .int .i64 C, .int .i64 D, .slice ba (bodyL l k).length bc, .int .i64 T]) rfl)
      have HRW6 := Lib.hid (ownsRow_setCell_below HRW.out (a := ⟨w.heap.size + 1, 5, none⟩) (Nat.lt_succ_self _) (.int .i64 T))
      have HB6 := Lib.hid (HW.out.setCell (p := ⟨w.heap.size + 1, 5, none⟩) (Nat.le_refl _) (.int .i64 T))
      obtain ⟨W6, hW6⟩ : ∃ z, wr.setCell ⟨w.heap.size + 1, 5, none⟩ (.int .i64 T) = z := ⟨_, rfl⟩
      have HW6 := Lib.hid hW6
      rw [hW6] at HC6 HRW6 HB6
      have c0 := HC6.out.c 0 rfl
      have c1 := HC6.out.c 1 rfl
      have c2 := HC6.out.c 2 rfl
      have c3 := HC6.out.c 3 rfl
      have c4 := HC6.out.c 4 rfl
      have c5 := HC6.out.c 5 rfl
      have cz := HC6.out.2.2
      go_wp2_with fail
      refine (encode_any A B C D _ (bodyL l k) T _ (ints_of_row HRW6.out)).mono ?_
      rintro e w7 ⟨u, rfl, hu, b7⟩
      have HE7 := Lib.hid (bys_of_row hu)
      have HC7 := Lib.hid (HC6.out.step b7)
      have HRR7 := Lib.hid (row_step HRW6.out b7)
      have HR7 := Lib.hid ((HR2.out.low HB6.out (Nat.lt_succ_self _)).step b7)
      have HB66 := Lib.hid (HB2.out.trans (HB6.out.mono (Nat.le_succ _)))
      have HV7 := Lib.hid ((HV.out.step HB66.out).step b7)
      have HB7 := Lib.hid (keep2 b7 HB66.out)
      have HDE := Lib.hid (show decE l k = encO A B C D (bodyL l k) T by unfold decE; rw [HNM.out.1, HNM.out.2.1, HNM.out.2.2.1, HNM.out.2.2.2, HTT.out])
      have HEB := Lib.hid (encO_by A B C D (bodyL l k) T)
      obtain ⟨el, hel⟩ : ∃ z, encO A B C D (bodyL l k) T = z := ⟨_, rfl⟩
      rw [hel] at HE7 HDE HEB hu
      obtain ⟨ea, ec, rfl⟩ := row_slice hu
      clear hel hu b7 c0 c1 c2 c3 c4 c5 cz x5 y5 xz
      have c0 := HC7.out.c 0 rfl
      have c1 := HC7.out.c 1 rfl
      have c2 := HC7.out.c 2 rfl
      have c3 := HC7.out.c 3 rfl
      have c4 := HC7.out.c 4 rfl
      have c5 := HC7.out.c 5 rfl
      have cz := HC7.out.2.2
      have r0 := HR7.out.c 0 rfl
      have r1 := HR7.out.c 1 rfl
      have r2 := HR7.out.c 2 rfl
      have r3 := HR7.out.c 3 rfl
      have r4 := HR7.out.c 4 rfl
      have r5 := HR7.out.c 5 rfl
      have p0 := HR7.out.f 0 (by simp)
      have p1 := HR7.out.f 1 (by simp)
      have p2 := HR7.out.f 2 (by simp)
      have p3 := HR7.out.f 3 (by simp)
      have p4 := HR7.out.f 4 (by simp)
      have p5 := HR7.out.f 5 (by simp)
      have rz := HR7.out.2.2
      go_wp2_with fail
      refine (equal_any _ _ el l _ HE7.out HV7.out HEB.out HBY.out).mono ?_
      rintro e w' ⟨rfl, rfl⟩
      by_cases hE : el = l
      · rw [decide_eq_true hE]
        have HDD := Lib.hid (show decE l k = l by rw [HDE.out, hE])
        clear hE
        go_wp2_with fail
        refine (fun (h : ∀ W : World, Cs W w.heap.size #[.int .i64 A, .int .i64 B, .int .i64 C, .int .i64 D, .slice ba (bodyL l k).length bc, .int .i64 T] → IntsAt W (.slice ba (bodyL l k).length bc) (bodyL l k) → Below w.heap.size w W → bodyPost Try.prog Try.f13 _ Exit.ret _ W) => h _ (cs_store6 HR7.out _ _ _ _ _ _) (ints_of_row (row_store6 HRR7.out (Nat.lt_succ_of_lt (Nat.lt_succ_self _)) _ _ _ _ _ _)) (bel_store6 HB7.out (Nat.le_refl _) _ _ _ _ _ _)) ?_
        intro W hC hI hB
        have k0 : W.cell? ⟨w.heap.size, 0, none⟩ = some (.int .i64 A) := hC.c 0 rfl
        have k1 : W.cell? ⟨w.heap.size, 1, none⟩ = some (.int .i64 B) := hC.c 1 rfl
        have k2 : W.cell? ⟨w.heap.size, 2, none⟩ = some (.int .i64 C) := hC.c 2 rfl
        have k3 : W.cell? ⟨w.heap.size, 3, none⟩ = some (.int .i64 D) := hC.c 3 rfl
        have k4 : W.cell? ⟨w.heap.size, 4, none⟩ = some (.slice ba (bodyL l k).length bc) := hC.c 4 rfl
        have k5 : W.cell? ⟨w.heap.size, 5, none⟩ = some (.int .i64 T) := hC.c 5 rfl
        clear r0 r1 r2 r3 r4 r5 p0 p1 p2 p3 p4 p5 rz c0 c1 c2 c3 c4 c5 cz
        exact bodyPost_ret (v := .tuple #[.agg #[.int .i64 A, .int .i64 B, .int .i64 C, .int .i64 D, .slice ba (bodyL l k).length bc, .int .i64 T], .int .i64 0]) (by simp [results, Try.results13, go_sem, k0, k1, k2, k3, k4, k5]) rfl (DcQ.yes HDD.out ⟨_, by rw [HNM.out.1, HNM.out.2.1, HNM.out.2.2.1, HNM.out.2.2.2, HTT.out], hI, hB⟩)
      · rw [decide_eq_false hE]
        have HDD := Lib.hid (show ¬ decE l k = l from fun e => hE (by rw [← HDE.out, e]))
        clear hE
        go_wp2_with fail
        refine (fun (h : ∀ W : World, Cs W w.heap.size #[.int .i64 0, .int .i64 0, .int .i64 0, .int .i64 0, .slice none 0 0, .int .i64 0] → Below w.heap.size w W → bodyPost Try.prog Try.f13 _ Exit.ret _ W) => h _ (cs_store6 HR7.out _ _ _ _ _ _) (bel_store6 HB7.out (Nat.le_refl _) _ _ _ _ _ _)) ?_
        intro W hC hB
        have k0 : W.cell? ⟨w.heap.size, 0, none⟩ = some (.int .i64 0) := hC.c 0 rfl
        have k1 : W.cell? ⟨w.heap.size, 1, none⟩ = some (.int .i64 0) := hC.c 1 rfl
        have k2 : W.cell? ⟨w.heap.size, 2, none⟩ = some (.int .i64 0) := hC.c 2 rfl
        have k3 : W.cell? ⟨w.heap.size, 3, none⟩ = some (.int .i64 0) := hC.c 3 rfl
        have k4 : W.cell? ⟨w.heap.size, 4, none⟩ = some (.slice none 0 0) := hC.c 4 rfl
        have k5 : W.cell? ⟨w.heap.size, 5, none⟩ = some (.int .i64 0) := hC.c 5 rfl
        clear r0 r1 r2 r3 r4 r5 p0 p1 p2 p3 p4 p5 rz c0 c1 c2 c3 c4 c5 cz
        exact bodyPost_ret (v := .tuple #[.agg #[.int .i64 0, .int .i64 0, .int .i64 0, .int .i64 0, .slice none 0 0, .int .i64 0], .int .i64 24]) (by simp [results, Try.results13, go_sem, k0, k1, k2, k3, k4, k5]) rfl (DcQ.no HDD.out ⟨_, rfl, ints_nil _, hB⟩)


def badL (l : List Int) : Bool := decide (l.length < 23) || !decide ((l.length : Int) = 23 + 4 * l.getD 16 0)
theorem decode_bad (v : Value) (l : List Int) (w : World) (h : BysAt w v l) (hb : IsBy l) (h9 : l.length ≤ 2000) (hx : badL l = true) : Calls Try.prog 13 #[v] w (DcP w 0 0 0 0 [] 0 24) := by
  by_cases h1 : l.length < 23
  · exact decode_short v l w h hb h9 h1
  · refine decode_len v l w h hb h9 (by omega) fun e => ?_
    unfold badL at hx
    simp [h1] at hx
    exact hx (by simpa using e)
theorem decode_good (v : Value) (l : List Int) (w : World) (h : BysAt w v l) (hb : IsBy l) (h9 : l.length ≤ 2000) (hx : badL l = false) : ∃ n : Nat, l.getD 16 0 = n ∧ l.length = 23 + 4 * n ∧ Calls Try.prog 13 #[v] w (DcQ w l n) := by
  unfold badL at hx
  rw [Bool.or_eq_false_iff, Bool.not_eq_false', decide_eq_true_iff] at hx
  have hg := by_get hb 16
  obtain ⟨n, hn⟩ := Int.eq_ofNat_of_zero_le hg.1
  have hl : l.length = 23 + 4 * n := by have := hx.2; rw [hn] at this; omega
  exact ⟨n, hn, hl, decode_main v l w h hb h9 n hn hl⟩
end Go.Proofs.Ytebeaekiaikgmaa
