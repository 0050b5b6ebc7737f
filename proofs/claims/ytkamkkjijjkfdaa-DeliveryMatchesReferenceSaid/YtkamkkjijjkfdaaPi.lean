/- Windows: compared. -/
import Derived.Test.YtkamkkjijjkfdaaPh
namespace Go.Proofs.Ytkamkkjijjkfdaa
open Go.RowKit

set_option maxRecDepth 100000 in
set_option maxHeartbeats 8000000 in
theorem samew_any (t : Int) (u v : Value) (L : List Bool) (w : World) (hu : BosAt w u L) (hv : BosAt w v L) : Calls Try.prog 36 #[.agg #[.int .i64 t, u], .agg #[.int .i64 t, v]] w fun e w' => e = .returned (.bool true) ∧ Below w.heap.size w w' := by
  have HU0 := Lib.hid hu
  have HV0 := Lib.hid hv
  obtain ⟨ua, uc, rfl, hm, -⟩ := hu
  obtain ⟨va, vc, rfl, -, -⟩ := hv
  unfold maxLen at hm
  have HC0 := Lib.hid ((Cs.new w w.heap.size #[.int .i64 t, .slice ua L.length uc] 27 rfl).alloc (.cells #[.int .i64 t, .slice va L.length vc] 27))
  have HD0 := Lib.hid (Cs.new (w.alloc (.cells #[.int .i64 t, .slice ua L.length uc] 27)) (w.heap.size + 1) #[.int .i64 t, .slice va L.length vc] 27 (by simp))
  have HB0 := Lib.hid (al2 (w := w) (o1 := .cells #[.int .i64 t, .slice ua L.length uc] 27) (o2 := .cells #[.int .i64 t, .slice va L.length vc] 27))
  have HU := Lib.hid (HU0.out.step HB0.out)
  have HV := Lib.hid (HV0.out.step HB0.out)
  have c0 := HC0.out.c 0 rfl
  have c1 := HC0.out.c 1 rfl
  have cz := HC0.out.2.2
  have d0 := HD0.out.c 0 rfl
  have d1 := HD0.out.c 1 rfl
  have dz := HD0.out.2.2
  clear HU0 HV0
  go_enter Try.func36, Try.ntmps36
  go_wp2_with fail
  obtain ⟨W, hW⟩ : ∃ z, (w.alloc (.cells #[.int .i64 t, .slice ua L.length uc] 27)).alloc (.cells #[.int .i64 t, .slice va L.length vc] 27) = z := ⟨_, rfl⟩
  rw [hW] at HC0 HD0 HB0 HU HV c0 c1 cz d0 d1 dz ⊢
  clear hW
  go_loopw [5] (fun iv wr => ∃ k j : Nat, k ≤ L.length ∧ iv = .int .i64 k ∧ Hid (wr = W.drewN j)) (fun iv _ => L.length - (intOf iv).toNat)
  case atStart => exact ⟨0, 0, by omega, rfl, Lib.hid rfl⟩
  case round =>
    obtain ⟨k, j, hk, rfl, HW⟩ := hrel
    have x0 : wr.cell? ⟨w.heap.size, 0, none⟩ = some (.int .i64 t) := by rw [HW.out]; exact c0
    have x1 : wr.cell? ⟨w.heap.size, 1, none⟩ = some (.slice ua L.length uc) := by rw [HW.out]; exact c1
    have y0 : wr.cell? ⟨w.heap.size + 1, 0, none⟩ = some (.int .i64 t) := by rw [HW.out]; exact d0
    have y1 : wr.cell? ⟨w.heap.size + 1, 1, none⟩ = some (.slice va L.length vc) := by rw [HW.out]; exact d1
    have xz : w.heap.size < wr.heap.size := World.block_lt_of_cell? _ _ x0
    have yz : w.heap.size + 1 < wr.heap.size := World.block_lt_of_cell? _ _ y0
    by_cases hlt : k < L.length
    · have t1 : (k : Int) < (L.length : Int) := by omega
      have HUW := HU.out.step (show Below W.heap.size W wr by rw [HW.out]; exact below_drewN' _ _ _)
      have HVW := HV.out.step (show Below W.heap.size W wr by rw [HW.out]; exact below_drewN' _ _ _)
      obtain ⟨a1, c1', hv1, -, hcs1⟩ := HUW
      obtain ⟨rfl, rfl⟩ : ua = a1 ∧ uc = c1' := by simpa using hv1
      obtain ⟨a2, c2', hv2, -, hcs2⟩ := HVW
      obtain ⟨rfl, rfl⟩ : va = a2 ∧ vc = c2' := by simpa using hv2
      obtain ⟨b1, o1, rfl, hx1⟩ := hcs1 (by intro e; rw [e] at hlt; simp at hlt)
      obtain ⟨b2, o2, rfl, hx2⟩ := hcs2 (by intro e; rw [e] at hlt; simp at hlt)
      have z1 := hx1 k _ (bo_get hlt)
      have z2 := hx2 k _ (bo_get hlt)
      have zz1 := World.block_lt_of_cell? _ _ z1
      have zz2 := World.block_lt_of_cell? _ _ z2
      generalize L.getD k false = z at *
      clear hcs1 hcs2 hx1 hx2 hv1 hv2 c0 c1 cz d0 d1 dz
      go_wp2_with fail
      go_upto_region 6 with fail
      obtain ⟨wq, hwq⟩ : ∃ z, z = wr := ⟨_, rfl⟩
      subst hwq
      go_cut [37] from 27 to 38 (fun p wc => p = .bool false ∧ ∃ j : Nat, wc = wq.drewN j)
      case first =>
        go_quiet (fail)
        go_wp2
        go_meet
        exact ⟨by simp, _, rfl⟩
      obtain ⟨rfl, j2, hwc⟩ := hcut
      have HWC := Lib.hid (show wc = W.drewN (j + j2) by rw [hwc, HW.out]; exact World.drewN_drewN _ _ _)
      clear hwc x0 x1 y0 y1 xz yz z1 z2 zz1 zz2
      go_wp2
      go_roundw
      case rel => exact ⟨k + 1, _, hlt, by first | go_num | rfl, HWC⟩
      case measure => simp [intOf]; omega
    · have HE := Lib.hid (show Below w.heap.size w wr by rw [HW.out]; exact HB0.out.trans (below_drewN' _ _ _))
      go_wp2
      go_ret
      exact ⟨rfl, HE.out⟩
end Go.Proofs.Ytkamkkjijjkfdaa
