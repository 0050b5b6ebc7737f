/- Delivery: fresh receivers; senders compared; 'small'. -/
import Derived.Test.YtkamkkjijjkfdaaDl
import Derived.Test.YtkamkkjijjkfdaaDg
import Derived.BigQuiet
namespace Go.Proofs.Ytkamkkjijjkfdaa
open Go.RowKit

set_option maxRecDepth 100000 in
set_option maxHeartbeats 8000000 in
theorem sames_any (nx : Int) (xa ya : Option Addr) (xc yc : Nat) (L : List Od) (w : World) (hx : OdsAt w (.slice xa L.length xc) L) (hy : OdsAt w (.slice ya L.length yc) L) :
    Calls Try.prog 15 #[.agg #[.int .i64 nx, .slice xa L.length xc], .agg #[.int .i64 nx, .slice ya L.length yc]] w fun e w' => e = .returned (.bool true) ∧ Below w.heap.size w w' := by
  have HX0 := Lib.hid ((Cs.new w w.heap.size #[.int .i64 nx, .slice xa L.length xc] 24 rfl).alloc (.cells #[.int .i64 nx, .slice ya L.length yc] 24))
  have HY0 := Lib.hid (Cs.new (w.alloc (.cells #[.int .i64 nx, .slice xa L.length xc] 24)) (w.heap.size + 1) #[.int .i64 nx, .slice ya L.length yc] 24 (by simp))
  have HB0 := Lib.hid (al2 (w := w) (o1 := .cells #[.int .i64 nx, .slice xa L.length xc] 24) (o2 := .cells #[.int .i64 nx, .slice ya L.length yc] 24))
  have HP0 := Lib.hid (hx.step HB0.out)
  have HQ0 := Lib.hid (hy.step HB0.out)
  have hm : L.length ≤ maxLen := by obtain ⟨a', c', e, -, hm, -⟩ := hx; simpa using hm
  unfold maxLen at hm
  clear hx hy
  have x0 := HX0.out.c 0 rfl
  have x1 := HX0.out.c 1 rfl
  have xz := HX0.out.2.2
  have y0 := HY0.out.c 0 rfl
  have y1 := HY0.out.c 1 rfl
  have yz := HY0.out.2.2
  go_enter Try.func15, Try.ntmps15
  go_wp2_with fail
  obtain ⟨W, hW⟩ : ∃ z, (w.alloc (.cells #[.int .i64 nx, .slice xa L.length xc] 24)).alloc (.cells #[.int .i64 nx, .slice ya L.length yc] 24) = z := ⟨_, rfl⟩
  rw [hW] at HX0 HY0 HB0 HP0 HQ0 x0 x1 xz y0 y1 yz ⊢
  clear hW
  go_loopw [5] (fun iv wr => ∃ k n : Nat, k ≤ L.length ∧ iv = .int .i64 k ∧ wr = W.drewN n) (fun iv _ => L.length - (intOf iv).toNat)
  case atStart => exact ⟨0, 0, by omega, rfl, rfl⟩
  case round =>
    obtain ⟨k, n, hk, rfl, rfl⟩ := hrel
    by_cases hlt : k < L.length
    · obtain ⟨a1, c1, hv1, -, -, hcs1⟩ := HP0.out
      obtain ⟨rfl, rfl⟩ : xa = a1 ∧ xc = c1 := by simpa using hv1
      obtain ⟨b1, o1, rfl, hx1⟩ := hcs1 (by intro e; rw [e] at hlt; simp at hlt)
      obtain ⟨p0, p1, p2, p3⟩ := hx1 k _ (od_get hlt)
      have pz : b1 < W.heap.size := World.block_lt_of_cell? _ _ p0
      obtain ⟨a2, c2, hv2, -, -, hcs2⟩ := HQ0.out
      obtain ⟨rfl, rfl⟩ : ya = a2 ∧ yc = c2 := by simpa using hv2
      obtain ⟨b2, o2, rfl, hx2⟩ := hcs2 (by intro e; rw [e] at hlt; simp at hlt)
      obtain ⟨q0, q1, q2, q3⟩ := hx2 k _ (od_get hlt)
      have qz : b2 < W.heap.size := World.block_lt_of_cell? _ _ q0
      have t1 : (k : Int) < (L.length : Int) := by omega
      clear hcs1 hx1 hv1 hcs2 hx2 hv2
      obtain ⟨x, hx⟩ : ∃ x, L.getD k zO = x := ⟨_, rfl⟩
      rw [hx] at p0 p1 p2 p3 q0 q1 q2 q3
      clear hx
      obtain ⟨a, b, c, d⟩ := x
      simp only at p0 p1 p2 p3 q0 q1 q2 q3
      go_wp2_with fail
      go_quiet (fail)
      go_wp2
      go_roundw
      case rel => exact ⟨k + 1, _, by omega, by go_num, by first | rfl | exact World.drewN_drewN _ _ _ | exact (World.drewN_drewN _ _ _).symm⟩
      case measure => simp [intOf]; omega
    · go_wp2
      go_ret
      exact ⟨rfl, HB0.out.trans (below_drewN' _ _ _)⟩
set_option maxRecDepth 100000 in
set_option maxHeartbeats 8000000 in
theorem newrc_ok (v : Value) (l : List Int) (hv : vaB l = true) (w : World) (h : IntsAt w v l) (h9 : l.length ≤ 100000) :
    Calls Try.prog 19 #[v] w fun e w' => ∃ (cc vc : Nat) (aa va : Option Addr), e = .returned (.agg #[.int .i64 (-1), .slice aa 16 cc, .int .i64 0, .slice va l.length vc, .int .i64 0]) ∧ 16 ≤ cc ∧ BosAt w' (.slice aa 16 cc) (List.replicate 16 false) ∧ IntsAt w' (.slice va l.length vc) l ∧ Below w.heap.size w w' := by
  have HR0 := Lib.hid (Cs.new w w.heap.size #[.int .i64 0, .slice none 0 0, .int .i64 0, .slice none 0 0, .int .i64 0] 30 rfl)
  have HB0 := Lib.hid (al w (.cells #[.int .i64 0, .slice none 0 0, .int .i64 0, .slice none 0 0, .int .i64 0] 30))
  have HV0 := Lib.hid (h.step HB0.out)
  have HV := Lib.hid hv
  have H9 := Lib.hid h9
  clear h hv h9
  go_enter Try.func19, Try.ntmps19
  go_wp2_with fail
  refine (areValues_any v l _ HV0.out).mono ?_
  rintro e w1 ⟨rfl, b1⟩
  rw [HV.out]
  have HR1 := Lib.hid (HR0.out.step b1)
  have HB1 := Lib.hid (keep2 b1 HB0.out)
  have HV1 := Lib.hid (HV0.out.step b1)
  have HR1z := Lib.hid HR1.out.2.2
  clear b1 HR0 HB0 HV0
  go_wp2_with fail
  refine (fresh1_any _).mono ?_
  rintro e w2 ⟨s, rfl, r2, b2⟩
  obtain ⟨aa, cc, rfl⟩ := row_slice r2
  have HR2 := Lib.hid (HR1.out.step b2)
  have HB2 := Lib.hid (keep2 b2 HB1.out)
  have HV2 := Lib.hid (HV1.out.step b2)
  have HW2 := Lib.hid r2
  have b2s := Lib.hid b2.size
  clear b2 HR1 HB1 HV1 r2
  go_wp2_with fail
  refine (in_clone v l _ HV2.out H9.out).mono ?_
  rintro e w3 ⟨u, rfl, r3, b3⟩
  obtain ⟨va, vc, rfl⟩ := row_slice r3
  have HR3 := Lib.hid (HR2.out.step b3)
  have HB3 := Lib.hid (keep2 b3 HB2.out)
  have HW3 := Lib.hid (row_step HW2.out b3)
  have HV3 := Lib.hid (ints_of_row r3)
  have HA1 := Lib.hid (row_adr HW3.out)
  have HA2 := Lib.hid (row_adr r3)
  have HZ1 := Lib.hid (show w.heap.size < w1.heap.size from HR1z.out)
  have HZ2 := Lib.hid (show w.heap.size < w2.heap.size from Nat.lt_of_lt_of_le HR1z.out b2s.out)
  clear b3 HR2 HB2 HV2 HW2 r3
  have r0 := HR3.out.c 0 rfl
  have r1 := HR3.out.c 1 rfl
  have r2 := HR3.out.c 2 rfl
  have r3 := HR3.out.c 3 rfl
  have r4 := HR3.out.c 4 rfl
  have f0 := HR3.out.f 0 (by simp)
  have f1 := HR3.out.f 1 (by simp)
  have f2 := HR3.out.f 2 (by simp)
  have f3 := HR3.out.f 3 (by simp)
  have f4 := HR3.out.f 4 (by simp)
  have rz := HR3.out.2.2
  go_wp2_with fail
  have hg1 : ∀ g o, aa = some ⟨g, o, none⟩ → g ≠ w.heap.size := fun g o e => by have := HA1.out g o e; have := HZ1.out; omega
  have hg2 : ∀ g o, va = some ⟨g, o, none⟩ → g ≠ w.heap.size := fun g o e => by have := HA2.out g o e; have := HZ2.out; omega
  have HBA := Lib.hid (show BosAt w3 (.slice aa 16 cc) (List.replicate 16 false) from bos_of_row (xs := List.replicate 16 false) HW3.out)
  refine (fun (h : ∀ V : World, Cs V w.heap.size #[.int .i64 (-1), .slice aa 16 cc, .int .i64 0, .slice va l.length vc, .int .i64 0] → BosAt V (.slice aa 16 cc) (List.replicate 16 false) → IntsAt V (.slice va l.length vc) l → Below w.heap.size w V → bodyPost Try.prog Try.f19 _ Exit.ret _ V) => h _ (Cs.set (Cs.set (Cs.set (Cs.set (Cs.set (HR3.out) 0 (by simp) (.int .i64 (-1)) (vs' := #[.int .i64 (-1), .slice none 0 0, .int .i64 0, .slice none 0 0, .int .i64 0]) rfl) 1 (by simp) (.slice aa 16 cc) (vs' := #[.int .i64 (-1), .slice aa 16 cc, .int .i64 0, .slice none 0 0, .int .i64 0]) rfl) 2 (by simp) (.int .i64 0) (vs' := #[.int .i64 (-1), .slice aa 16 cc, .int .i64 0, .slice none 0 0, .int .i64 0]) rfl) 3 (by simp) (.slice va l.length vc) (vs' := #[.int .i64 (-1), .slice aa 16 cc, .int .i64 0, .slice va l.length vc, .int .i64 0]) rfl) 4 (by simp) (.int .i64 0) (vs' := #[.int .i64 (-1), .slice aa 16 cc, .int .i64 0, .slice va l.length vc, .int .i64 0]) rfl) (bos_oth (bos_oth (bos_oth (bos_oth (bos_oth (HBA.out) hg1 0 _) hg1 1 _) hg1 2 _) hg1 3 _) hg1 4 _) (ints_oth (ints_oth (ints_oth (ints_oth (ints_oth (HV3.out) hg2 0 _) hg2 1 _) hg2 2 _) hg2 3 _) hg2 4 _) ((((((HB3.out).setCell (p := ⟨w.heap.size, 0, none⟩) (Nat.le_refl _) _).setCell (p := ⟨w.heap.size, 1, none⟩) (Nat.le_refl _) _).setCell (p := ⟨w.heap.size, 2, none⟩) (Nat.le_refl _) _).setCell (p := ⟨w.heap.size, 3, none⟩) (Nat.le_refl _) _).setCell (p := ⟨w.heap.size, 4, none⟩) (Nat.le_refl _) _)) ?_
  intro V hC hB hI hW
  have k0 : V.cell? ⟨w.heap.size, 0, none⟩ = some (.int .i64 (-1)) := hC.c 0 rfl
  have k1 : V.cell? ⟨w.heap.size, 1, none⟩ = some (.slice aa 16 cc) := hC.c 1 rfl
  have k2 : V.cell? ⟨w.heap.size, 2, none⟩ = some (.int .i64 0) := hC.c 2 rfl
  have k3 : V.cell? ⟨w.heap.size, 3, none⟩ = some (.slice va l.length vc) := hC.c 3 rfl
  have k4 : V.cell? ⟨w.heap.size, 4, none⟩ = some (.int .i64 0) := hC.c 4 rfl
  exact bodyPost_ret (v := .agg #[.int .i64 (-1), .slice aa 16 cc, .int .i64 0, .slice va l.length vc, .int .i64 0]) (by simp [results, Try.results19, go_sem, k0, k1, k2, k3, k4]) rfl ⟨cc, vc, aa, va, rfl, row_capD HW3.out, hB, hI, hW⟩
set_option maxRecDepth 100000 in
set_option maxHeartbeats 8000000 in
theorem small_any (nx t f dn : Int) (xa sa va : Option Addr) (n1 n2 n3 xc sc vc : Nat) (r : Bool) (hr : (decide (n1 ≤ 30) && (decide (n3 ≤ 30) && decide (n2 ≤ 30))) = r) (w : World) :
    Calls Try.prog 10 #[.agg #[.int .i64 nx, .slice xa n1 xc], .agg #[.int .i64 t, .slice sa n2 sc, .int .i64 f, .slice va n3 vc, .int .i64 dn]] w fun e w' => e = .returned (.bool r) ∧ Below w.heap.size w w' := by
  have HX0 := Lib.hid ((Cs.new w w.heap.size #[.int .i64 nx, .slice xa n1 xc] 24 rfl).alloc (.cells #[.int .i64 t, .slice sa n2 sc, .int .i64 f, .slice va n3 vc, .int .i64 dn] 30))
  have HY0 := Lib.hid (Cs.new (w.alloc (.cells #[.int .i64 nx, .slice xa n1 xc] 24)) (w.heap.size + 1) #[.int .i64 t, .slice sa n2 sc, .int .i64 f, .slice va n3 vc, .int .i64 dn] 30 (by simp))
  have HB0 := Lib.hid (al2 (w := w) (o1 := .cells #[.int .i64 nx, .slice xa n1 xc] 24) (o2 := .cells #[.int .i64 t, .slice sa n2 sc, .int .i64 f, .slice va n3 vc, .int .i64 dn] 30))
  have x1 := HX0.out.c 1 rfl
  have xz := HX0.out.2.2
  have y1 := HY0.out.c 1 rfl
  have y3 := HY0.out.c 3 rfl
  have yz := HY0.out.2.2
  have HR := Lib.hid hr
  clear hr
  cases h1 : decide (n1 ≤ 30)
  · have HE := Lib.hid (show r = false by rw [← HR.out, h1]; rfl)
    have g1 : decide ((n1 : Int) ≤ 30) = false := by have := of_decide_eq_false h1; simp; omega
    clear HR h1
    go_enter Try.func10, Try.ntmps10
    go_wp2
    go_ret
    exact ⟨by rw [HE.out]; rfl, HB0.out⟩
  · have g1 : decide ((n1 : Int) ≤ 30) = true := by have := of_decide_eq_true h1; simp; omega
    cases h2 : decide (n3 ≤ 30)
    · have HE := Lib.hid (show r = false by rw [← HR.out, h1, h2]; rfl)
      have g2 : decide ((n3 : Int) ≤ 30) = false := by have := of_decide_eq_false h2; simp; omega
      clear HR h1 h2
      go_enter Try.func10, Try.ntmps10
      go_wp2
      go_ret
      exact ⟨by rw [HE.out]; rfl, HB0.out⟩
    · have g2 : decide ((n3 : Int) ≤ 30) = true := by have := of_decide_eq_true h2; simp; omega
      cases h3 : decide (n2 ≤ 30)
      · have HE := Lib.hid (show r = false by rw [← HR.out, h1, h2, h3]; rfl)
        have g3 : decide ((n2 : Int) ≤ 30) = false := by have := of_decide_eq_false h3; simp; omega
        clear HR h1 h2 h3
        go_enter Try.func10, Try.ntmps10
        go_wp2
        go_ret
        exact ⟨by rw [HE.out]; rfl, HB0.out⟩
      · have HE := Lib.hid (show r = true by rw [← HR.out, h1, h2, h3]; rfl)
        have g3 : decide ((n2 : Int) ≤ 30) = true := by have := of_decide_eq_true h3; simp; omega
        clear HR h1 h2 h3
        go_enter Try.func10, Try.ntmps10
        go_wp2
        go_ret
        exact ⟨by rw [HE.out]; rfl, HB0.out⟩
end Go.Proofs.Ytkamkkjijjkfdaa
