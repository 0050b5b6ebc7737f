/- Delivery: 'receive', an order that is executed. -/
import Derived.Test.YtkamkkjijjkfdaaDd
namespace Go.Proofs.Ytkamkkjijjkfdaa
open Go.RowKit

set_option maxRecDepth 100000 in
set_option maxHeartbeats 8000000 in
theorem recv_do (t f dn fe y seq T er : Int) (x : Nat) (s : Value) (L A : List Bool) (va : Option Addr) (vc : Nat) (l : List Int) (n B : Nat) (w : World) (hc : Cs w n #[.int .i64 t, s, .int .i64 f, .slice va l.length vc, .int .i64 dn]) (hs : BosAt w s L)
    (hv : w.ownsRow B 3 1 (.slice va l.length vc) l.length (l.map (Value.int .i64))) (ho : orB seq fe x y = true) (hk : rvB f l dn = true) (hx : x < l.length) (hvn : ∀ g, va = some ⟨g, 0, none⟩ → g ≠ n) (hnw : n < w.heap.size)
    (hacc : ∀ W, BosAt W s L → Calls Try.prog 51 #[.agg #[.int .i64 t, s], .int .i64 seq] W (AcF W T A er)) (her : er = 0) (hf : f ≤ fe) :
    Calls Try.prog 33 #[.pointer (some ⟨n, 0, none⟩), .agg #[.int .i64 seq, .int .i64 fe, .int .i64 x, .int .i64 y]] w fun e w' => e = .returned (.tuple #[.bool true, .int .i64 0]) ∧ ∃ (cc : Nat) (aa : Option Addr), (∀ g o, aa = some ⟨g, o, none⟩ → w.heap.size ≤ g) ∧ A.length ≤ cc ∧ Cs w' n #[.int .i64 T, .slice aa A.length cc, .int .i64 fe, .slice va l.length vc, .int .i64 (dn + 1)] ∧ BosAt w' (.slice aa A.length cc) A ∧ IntsAt w' (.slice va l.length vc) (l.set x y) ∧ Below (min B n) w w' := by
  have HVL := Lib.hid (show ∀ g, va = some ⟨g, 0, none⟩ → B ≤ g ∧ g < w.heap.size from fun g h => row_lt hv h)
  have HN0 := Lib.hid (hc.alloc (.cells #[.int .i64 seq, .int .i64 fe, .int .i64 x, .int .i64 y] 32))
  have HO0 := Lib.hid (Cs.new w w.heap.size #[.int .i64 seq, .int .i64 fe, .int .i64 x, .int .i64 y] 32 rfl)
  have HB0 := Lib.hid (al w (.cells #[.int .i64 seq, .int .i64 fe, .int .i64 x, .int .i64 y] 32))
  have HS0 := Lib.hid (hs.step HB0.out)
  have HV0 := Lib.hid (row_step hv HB0.out)
  have HOK := Lib.hid ho
  have HKK := Lib.hid hk
  have HX := Lib.hid hx
  have HVN := Lib.hid hvn
  have HNW := Lib.hid hnw
  have HACC := Lib.hid hacc
  clear hvn hnw hacc
  clear hc hs hv ho hk hx
  subst her
  have HF := Lib.hid hf
  clear hf
  go_enter Try.func33, Try.ntmps33
  go_upto_region 1 with fail
  generalize w.alloc (.cells #[.int .i64 seq, .int .i64 fe, .int .i64 x, .int .i64 y] 32) = wq at *
  go_cut [26] from 8 to 26 (fun p wc => p = .bool false ∧ Below wq.heap.size wq wc)
  case first =>
    have hxl : (x : Int) < (l.length : Int) := by have := HX.out; omega
    have hxd : decide ((l.length : Int) ≤ (x : Int)) = false := by simp; omega
    have hxd2 : decide (l.length ≤ x) = false := by have := HX.out; simp; omega
    have HIV := Lib.hid (ints_of_row HV0.out)
    have HNn := Lib.hid (show ∀ w', Below wq.heap.size wq w' → Cs w' n #[.int .i64 t, s, .int .i64 f, .slice va l.length vc, .int .i64 dn] from fun w' h => HN0.out.step h)
    have HOo := Lib.hid (show ∀ w', Below wq.heap.size wq w' → Cs w' w.heap.size #[.int .i64 seq, .int .i64 fe, .int .i64 x, .int .i64 y] from fun w' h => HO0.out.step h)
    have o0 : wq.cell? ⟨w.heap.size, 0, none⟩ = some (.int .i64 seq) := HO0.out.c 0 rfl
    have o1 : wq.cell? ⟨w.heap.size, 1, none⟩ = some (.int .i64 fe) := HO0.out.c 1 rfl
    have o2 : wq.cell? ⟨w.heap.size, 2, none⟩ = some (.int .i64 x) := HO0.out.c 2 rfl
    have o3 : wq.cell? ⟨w.heap.size, 3, none⟩ = some (.int .i64 y) := HO0.out.c 3 rfl
    have n3 : wq.cell? ⟨n, 3, none⟩ = some (.slice va l.length vc) := HN0.out.c 3 rfl
    go_region_law (first | (go_simp; go_at_call 30; refine (isOrder_any _ _ _ _ _).mono ?_; rintro e w2 ⟨rfl, b2⟩; rw [show (inr seq 0 1000000 && (inr fe 0 1000000000 && (inr (x : Int) 0 1199 && inr y 0 15))) = true from HOK.out]; have B2 := Lib.hid (show Below wq.heap.size wq w2 from (below_drew _ _).trans b2); have p2 : w2.cell? ⟨w.heap.size, 2, none⟩ = some (.int .i64 x) := (HOo.out _ B2.out).c 2 rfl; have q3 : w2.cell? ⟨n, 3, none⟩ = some (.slice va l.length vc) := (HNn.out _ B2.out).c 3 rfl; clear b2) | (go_simp; go_at_call 50; refine (isValid_any t f dn s (.slice va l.length vc) l n _ (HNn.out _ B2.out) (HIV.out.step B2.out)).mono ?_; rintro e w3 ⟨rfl, b3⟩; rw [show (inr f 0 1000000000 && (vaB l && inr dn 0 1000001)) = true from HKK.out]; have B3 := Lib.hid (keep2 b3 B2.out); have p3 : w3.cell? ⟨w.heap.size, 2, none⟩ = some (.int .i64 x) := (HOo.out _ B3.out).c 2 rfl; have q4 : w3.cell? ⟨n, 3, none⟩ = some (.slice va l.length vc) := (HNn.out _ B3.out).c 3 rfl; clear b3))
    all_goals go_wp2
    all_goals go_meet
    all_goals exact ⟨rfl, B3.out⟩
  case rest =>
    obtain ⟨rfl, hb⟩ := hcut
    have HN1 := Lib.hid (HN0.out.step hb)
    have HO1 := Lib.hid (HO0.out.step hb)
    have HB1 := Lib.hid (keep2 hb HB0.out)
    have HS1 := Lib.hid (HS0.out.step hb)
    have HV1 := Lib.hid (row_step HV0.out hb)
    clear hb HN0 HO0 HB0 HS0 HV0
    go_upto_region 3 with fail
    go_cut [6, 7] from 27 to 37 (fun p q wc' => WnG wc T A 0 p q wc')
    case first =>
      have o0 : wc.cell? ⟨w.heap.size, 0, none⟩ = some (.int .i64 seq) := HO1.out.c 0 rfl
      have n0 : wc.cell? ⟨n, 0, none⟩ = some (.int .i64 t) := HN1.out.c 0 rfl
      have n1 : wc.cell? ⟨n, 1, none⟩ = some s := HN1.out.c 1 rfl
      have oo0 : (wc.alloc (.cells #[.int .i64 0, .slice none 0 0] 27)).cell? ⟨w.heap.size, 0, none⟩ = some (.int .i64 seq) := (HO1.out.alloc _).c 0 rfl
      have nn0 : (wc.alloc (.cells #[.int .i64 0, .slice none 0 0] 27)).cell? ⟨n, 0, none⟩ = some (.int .i64 t) := (HN1.out.alloc _).c 0 rfl
      have nn1 : (wc.alloc (.cells #[.int .i64 0, .slice none 0 0] 27)).cell? ⟨n, 1, none⟩ = some s := (HN1.out.alloc _).c 1 rfl
      go_region_law (go_simp; go_at_call 51; refine (HACC.out _ (HS1.out.step (by first | exact below_drew _ _ | exact (al _ _).trans (below_drew _ _)))).mono ?_; rintro e w3 ⟨aa, cc, rfl, hcl, hg, b3, hge⟩; have HG3 := Lib.hid hg; have HCL := Lib.hid hcl; have HW3 := Lib.hid (show Below wc.heap.size wc w3 from by first | exact (below_drew _ _).trans b3 | exact keep2 b3 ((al wc _).trans (below_drew _ _))); (first | (have HGE := Lib.hid (show ∀ g o, aa = some ⟨g, o, none⟩ → wc.heap.size < g from fun g o e => Nat.lt_of_lt_of_le (by simp) (show (wc.alloc (.cells #[.int .i64 0, .slice none 0 0] 27)).drew.heap.size ≤ g from hge g o e)); have HQ3 := Lib.hid (show Cs w3 wc.heap.size #[.int .i64 0, .slice none 0 0] from ((Cs.new wc wc.heap.size #[.int .i64 0, .slice none 0 0] 27 rfl).step (below_drew _ _)).step b3); have q0 : w3.cell? ⟨wc.heap.size, 0, none⟩ = some (.int .i64 0) := HQ3.out.c 0 rfl; have q1 : w3.cell? ⟨wc.heap.size, 1, none⟩ = some (.slice none 0 0) := HQ3.out.c 1 rfl; have g0 := HQ3.out.f 0 (by simp); have g1 := HQ3.out.f 1 (by simp)) | (have HGA := Lib.hid (show ∀ g o, aa = some ⟨g, o, none⟩ → wc.heap.size ≤ g from hge))); clear hg hge b3 hcl)
      all_goals go_wp2
      all_goals go_meet
      all_goals first | with_reducible exact WnG.after HW3.out HG3.out HCL.out HGA.out | with_reducible exact WnG.before HW3.out HG3.out HCL.out HGE.out HQ3.out
    case rest =>
      obtain ⟨k, cc, aa, rfl, rfl, hk, hgl, hcs, hg, hcl, hb⟩ := hcut
      have hgn : ∀ g o, aa = some ⟨g, o, none⟩ → g ≠ n := fun g o e => by have := HNW.out; have := HB1.out.size; have := hgl g o e; omega
      have HGL := Lib.hid hgl
      have HGS := Lib.hid HB1.out.size
      clear hgl
      have HN2 := Lib.hid (HN1.out.step hb)
      have HO2 := Lib.hid (HO1.out.step hb)
      have HB2 := Lib.hid (keep2 hb HB1.out)
      have HV2 := Lib.hid (row_step HV1.out hb)
      have HK2 := Lib.hid hcs
      have HG2 := Lib.hid hg
      have HCL := Lib.hid hcl
      clear hb hk hcs hg hcl HN1 HO1 HB1 HS1 HV1
      have HDN := Lib.hid (show 0 ≤ dn ∧ dn ≤ 1000001 from by
        have h := HKK.out
        unfold rvB at h
        rw [Bool.and_eq_true, Bool.and_eq_true, inr_iff, inr_iff] at h
        exact h.2.2)
      have hw : wrap64 (dn + 1) = dn + 1 := IntWalk.wrap64_in _ (by have := HDN.out; omega)
      have hfd : decide (fe < f) = false := by have := HF.out; simp; omega
      rcases HV2.out.2 with ⟨e, e2⟩ | ⟨gv, cp, cur, e, hg1, hg2, hg3⟩
      · exfalso
        have := HX.out
        omega
      obtain ⟨rfl, rfl⟩ : va = some ⟨gv, 0, none⟩ ∧ vc = cp := by simpa using e
      clear e hg1 hg2 hg3
      have hne : ¬ (gv = n) := HVN.out gv rfl
      have hggv : ∀ g o, aa = some ⟨g, o, none⟩ → g ≠ gv := fun g o e => by have := (HVL.out gv rfl).2; have := HGL.out g o e; have := HGS.out; omega
      have hen : ¬ (n = gv) := fun e => hne e.symm
      have r0 : wc.cell? ⟨w.heap.size, 0, none⟩ = some (.int .i64 seq) := HO2.out.c 0 rfl
      have r1 : wc.cell? ⟨w.heap.size, 1, none⟩ = some (.int .i64 fe) := HO2.out.c 1 rfl
      have r2 : wc.cell? ⟨w.heap.size, 2, none⟩ = some (.int .i64 x) := HO2.out.c 2 rfl
      have r3 : wc.cell? ⟨w.heap.size, 3, none⟩ = some (.int .i64 y) := HO2.out.c 3 rfl
      have n0 : wc.cell? ⟨n, 0, none⟩ = some (.int .i64 t) := HN2.out.c 0 rfl
      have n1 : wc.cell? ⟨n, 1, none⟩ = some s := HN2.out.c 1 rfl
      have n2 : wc.cell? ⟨n, 2, none⟩ = some (.int .i64 f) := HN2.out.c 2 rfl
      have n3 : wc.cell? ⟨n, 3, none⟩ = some (.slice (some ⟨gv, 0, none⟩) l.length vc) := HN2.out.c 3 rfl
      have n4 : wc.cell? ⟨n, 4, none⟩ = some (.int .i64 dn) := HN2.out.c 4 rfl
      have m0 := HN2.out.f 0 (by simp)
      have m1 := HN2.out.f 1 (by simp)
      have m2 := HN2.out.f 2 (by simp)
      have m4 := HN2.out.f 4 (by simp)
      have k0 : wc.cell? ⟨k, 0, none⟩ = some (.int .i64 T) := HK2.out.c 0 rfl
      have k1 : wc.cell? ⟨k, 1, none⟩ = some (.slice aa A.length cc) := HK2.out.c 1 rfl
      have v0 : wc.cell? ⟨gv, x, none⟩ = some (.int .i64 (l.getD x 0)) := by
        have h := HV2.out.cells (g := gv) rfl x (.int .i64 (l.getD x 0)) (by rw [List.getElem?_map, getD_of HX.out]; rfl)
        rwa [Go.WideShapes.add_plain, Nat.zero_add] at h
      have hon : ¬ (w.heap.size = n) := by have := HNW.out; omega
      have hno : ¬ (n = w.heap.size) := by have := HNW.out; omega
      go_wp2_with fail
      go_quiet (fail)
      go_wp2_with fail
      go_quiet (fail)
      go_wp2_with fail
      generalize hwz : World.drewN (World.drewN wc _) _ = wz
      have HA := Lib.hid (show Below wc.heap.size wc wz from hwz ▸ (below_drewN' _ _ _).trans (below_drewN' _ _ _))
      clear hwz r0 r1 r2 r3 n0 n1 n2 n3 n4 m0 m1 m2 m4 k0 k1 v0
      have HN3 := Lib.hid (HN2.out.step HA.out)
      have HO3 := Lib.hid (HO2.out.step HA.out)
      have HB3 := Lib.hid (keep2 HA.out HB2.out)
      have HV3 := Lib.hid (row_step HV2.out HA.out)
      have HK3 := Lib.hid (HK2.out.step HA.out)
      have HG3 := Lib.hid (HG2.out.step HA.out)
      clear HA HN2 HO2 HB2 HV2 HK2 HG2
      have r1 : wz.cell? ⟨w.heap.size, 1, none⟩ = some (.int .i64 fe) := HO3.out.c 1 rfl
      have n0 : wz.cell? ⟨n, 0, none⟩ = some (.int .i64 t) := HN3.out.c 0 rfl
      have n1 : wz.cell? ⟨n, 1, none⟩ = some s := HN3.out.c 1 rfl
      have n2 : wz.cell? ⟨n, 2, none⟩ = some (.int .i64 f) := HN3.out.c 2 rfl
      have m0 := HN3.out.f 0 (by simp)
      have m1 := HN3.out.f 1 (by simp)
      have m2 := HN3.out.f 2 (by simp)
      have k0 : wz.cell? ⟨k, 0, none⟩ = some (.int .i64 T) := HK3.out.c 0 rfl
      have k1 : wz.cell? ⟨k, 1, none⟩ = some (.slice aa A.length cc) := HK3.out.c 1 rfl
      go_region
      have HN4 := Lib.hid ((Cs.set (Cs.set (Cs.set HN3.out 0 (by simp) (.int .i64 T) rfl) 1 (by simp) (.slice aa A.length cc) rfl) 2 (by simp) (.int .i64 fe) (vs' := #[.int .i64 T, .slice aa A.length cc, .int .i64 fe, .slice (some ⟨gv, 0, none⟩) l.length vc, .int .i64 dn]) rfl).step (below_drew _ _))
      have HO4 := Lib.hid ((Cs.other (Cs.other (Cs.other HO3.out hon 0 (.int .i64 T)) hon 1 (.slice aa A.length cc)) hon 2 (.int .i64 fe)).step (below_drew _ _))
      have hvo : (Value.slice (some ⟨gv, 0, none⟩) l.length vc).ownBlock ≠ some n := by simp [Value.ownBlock]; exact hne
      have HV4 := Lib.hid (row_step (ownsRow_setCell_other (ownsRow_setCell_other (ownsRow_setCell_other HV3.out (a := ⟨n, 0, none⟩) hvo (.int .i64 T)) (a := ⟨n, 1, none⟩) hvo (.slice aa A.length cc)) (a := ⟨n, 2, none⟩) hvo (.int .i64 fe)) (below_drew _ _))
      have HG4 := Lib.hid ((bos_oth (bos_oth (bos_oth HG3.out hgn 0 (.int .i64 T)) hgn 1 (.slice aa A.length cc)) hgn 2 (.int .i64 fe)).step (below_drew _ _))
      clear HN3 HO3 HV3 HK3 HG3 r1 n0 n1 n2 m0 m1 m2 k0 k1
      have HBn := Lib.hid (show min B n ≤ n from Nat.min_le_right _ _)
      have HB4 := Lib.hid ((((Below.setCell (Below.mono HB3.out (Nat.le_trans HBn.out (Nat.le_of_lt HNW.out))) (p := ⟨n, 0, none⟩) HBn.out (.int .i64 T)).setCell (p := ⟨n, 1, none⟩) HBn.out (.slice aa A.length cc)).setCell (p := ⟨n, 2, none⟩) HBn.out (.int .i64 fe)).trans (below_drew _ _))
      clear HB3
      generalize hwy : World.drew _ = wy at *
      clear hwy
      have r2 : wy.cell? ⟨w.heap.size, 2, none⟩ = some (.int .i64 x) := HO4.out.c 2 rfl
      have r3 : wy.cell? ⟨w.heap.size, 3, none⟩ = some (.int .i64 y) := HO4.out.c 3 rfl
      have n3 : wy.cell? ⟨n, 3, none⟩ = some (.slice (some ⟨gv, 0, none⟩) l.length vc) := HN4.out.c 3 rfl
      have v0 : wy.cell? ⟨gv, x, none⟩ = some (.int .i64 (l.getD x 0)) := by
        have h := HV4.out.cells (g := gv) rfl x (.int .i64 (l.getD x 0)) (by rw [List.getElem?_map, getD_of HX.out]; rfl)
        rwa [Go.WideShapes.add_plain, Nat.zero_add] at h
      have v1 : wy.frozen? ⟨gv, x, none⟩ = false := by
        rcases HV4.out.2 with ⟨e, -⟩ | ⟨gw, cp, cur, e, -, h2, h3⟩
        · cases e
        · obtain ⟨rfl, -⟩ : gv = gw ∧ vc = cp := by simpa using e
          exact (Cs.of_heap h2).2.1 x (by have := h3.1; have := h3.2.2.1; have := HX.out; omega)
      have hxl : x < l.length := HX.out
      have hxi : (x : Int).toNat = x := Int.toNat_natCast _
      go_wp2_with fail
      go_region
      have HBg := Lib.hid (show min B n ≤ gv from Nat.le_trans (Nat.min_le_left _ _) (HVL.out gv rfl).1)
      have HN5 := Lib.hid ((Cs.other HN4.out hen x (.int .i64 y)).step (below_drew _ _))
      have HV5 := Lib.hid ((ints_set (y := y) HV4.out HX.out).step (below_drew _ _))
      have HG5 := Lib.hid ((bos_oth HG4.out hggv x (.int .i64 y)).step (below_drew _ _))
      have HB5 := Lib.hid ((HB4.out.setCell (p := ⟨gv, x, none⟩) HBg.out (.int .i64 y)).trans (below_drew _ _))
      clear HN4 HV4 HG4 HB4 HO4 r2 r3 n3 v0 v1
      generalize hwx : World.drew _ = wx at *
      clear hwx
      have n4 : wx.cell? ⟨n, 4, none⟩ = some (.int .i64 dn) := HN5.out.c 4 rfl
      have m4 := HN5.out.f 4 (by simp)
      go_wp2_with fail
      exact bodyPost_ret (v := .tuple #[.bool true, .int .i64 0]) (by simp [results, Try.results33, go_sem]) rfl ⟨rfl, cc, aa, (fun g o e => by have := HGL.out g o e; have := HGS.out; omega), HCL.out, Cs.set HN5.out 4 (by simp) (.int .i64 (dn + 1)) rfl, bos_oth HG5.out hgn 4 _, ints_other HV5.out hne 4 _, HB5.out.setCell (p := ⟨n, 4, none⟩) HBn.out _⟩
end Go.Proofs.Ytkamkkjijjkfdaa
