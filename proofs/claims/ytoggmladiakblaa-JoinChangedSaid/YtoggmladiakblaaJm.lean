/- The walk of 'head'. -/
import Derived.Test.YtoggmladiakblaaIw
namespace Go.Proofs.Ytoggmladiakblaa
open Go.RowKit

theorem rrecv_any {c s m o k : Int} {h d : Bool} {x y z er : Int} {J H : Array Value} (hw : RW c s m o k h d x y z er J H) (w : World) : Calls Try.prog 13 #[.agg (jc c s m o k h d), .agg (hc3 x y z)] w (RecvPost J H er w) := by
  cases hw with
  | arg hv => exact rrecv_arg c s m o k h d x y z w hv
  | done hv hd => subst hd; exact rrecv_done c s m o k h x y z w hv
  | dev hv hd hh hx => subst hd hh; exact rrecv_dev c s m o k x y z w hv hx
  | hub hv hd hh hx hx3 => subst hd hh; exact rrecv_hub c s m o k x y z w hv hx hx3
  | hub3 hv hd hh hx ho => subst hd hh hx; exact rrecv_hub3 c s m o k y z w hv ho
  | meetNo hv hd hh hx ha => subst hd hh hx; exact rrecv_meetNo c s m o k y z w hv ha
  | meet hv hd hh hx ha => subst hd hh hx; exact rrecv_meet c s m o k y z w hv ha
  | agreeNo hv hd hh hx ha => subst hd hh hx; exact rrecv_agreeNo c s m o k y z w hv ha
  | agreeBad hv hd hh hx ha hz => subst hd hh hx; exact rrecv_agreeBad c s m o k y z w hv ha hz
  | agree hv hd hh hx ha hz => subst hd hh hx; exact rrecv_agree c s m o k y z w hv ha hz
  | finBad hv hd hh hx ho hz => subst hd hh hx; exact rrecv_finBad c s m o k y z w hv ho hz
  | fin hv hd hh hx ho hz => subst hd hh hx; exact rrecv_fin c s m o k y z w hv ho hz
theorem recv_is (c s m o k : Int) (h d : Bool) (x y z er : Int) (J H : Array Value) (w : World) (hw : RW c s m o k h d x y z er J H) : Calls Try.prog 12 #[.agg (jc c s m o k h d), .agg (hc3 x y z)] w (RecvPost J H er w) := recv_any hw w
theorem device_is (a b m : Int) (w : World) (hm : pw 7 b = m) : Calls Try.prog 10 #[.int .i64 a, .int .i64 b] w fun e w' => e = .returned (.tuple #[.agg (jc a b m 0 0 false false), .agg (hc3 1 m 0)]) ∧ Below w.heap.size w w' := by
  have := device_any a b w; rwa [hm] at this
theorem hub_is (a b m : Int) (w : World) (hm : pw 7 b = m) : Calls Try.prog 14 #[.int .i64 a, .int .i64 b] w fun e w' => e = .returned (.agg (jc a b m 0 0 true false)) ∧ Below w.heap.size w w' := by
  have := hub_any a b w; rwa [hm] at this
theorem rw1 : RW 1234 7 823543 0 0 true false 1 16807 0 0 (jc 1234 7 823543 16807 0 true false) (hc3 2 823543 556964747) := by
  have h := RW.meet (c := 1234) (s := 7) (m := 823543) (o := 0) (k := 0) (h := true) (d := false) (x := 1) (y := 16807) (z := 0) (by decide +kernel) rfl rfl rfl (by decide +kernel)
  rw [show prf 1234 7 823543 16807 true 1 = 556964747 from (by decide +kernel)] at h
  exact h
theorem rw2 : RW 1234 5 16807 0 0 false false 2 823543 556964747 0 (jc 1234 5 16807 823543 101027544 false true) (hc3 3 0 1606526508) := by
  have h := RW.agree (c := 1234) (s := 5) (m := 16807) (o := 0) (k := 0) (h := false) (d := false) (x := 2) (y := 823543) (z := 556964747) (by decide +kernel) rfl rfl rfl (by decide +kernel) (by decide +kernel)
  rw [show prf 1234 5 16807 823543 false 2 = 1606526508 from (by decide +kernel)] at h
  rw [show pw 823543 5 = 101027544 from (by decide +kernel)] at h
  exact h
theorem rw3 : RW 1234 7 823543 16807 0 true false 3 0 1606526508 0 (jc 1234 7 823543 16807 101027544 true true) zh := by
  have h := RW.fin (c := 1234) (s := 7) (m := 823543) (o := 16807) (k := 0) (h := true) (d := false) (x := 3) (y := 0) (z := 1606526508) (by decide +kernel) rfl rfl rfl (by decide +kernel) (by decide +kernel)
  rw [show pw 16807 7 = 101027544 from (by decide +kernel)] at h
  exact h
theorem rw4 : RW 1234 5 16807 823543 101027544 false true 2 823543 556964747 28 zj zh := RW.done (by decide +kernel) rfl
theorem rw5 : RW 1234 5 16807 0 0 false false 2 823543 556964748 17 zj zh := RW.agreeBad (by decide +kernel) rfl rfl rfl (by decide +kernel) (by decide +kernel)
theorem rw6 : RW 1234 7 823543 16807 0 true false 1 1 0 1 zj zh := RW.meetNo (by decide +kernel) rfl rfl rfl (by decide +kernel)
set_option maxRecDepth 100000 in
set_option maxHeartbeats 16000000 in
theorem head_any (w : World) : Calls Try.prog 9 #[] w fun e w' => e = .returned (.bool true) ∧ Below w.heap.size w w' := by
  have HB0 := Lib.hid (Below.refl w.heap.size w)
  go_enter Try.func9, Try.ntmps9
  go_wp2_with fail
  refine (device_is 1234 5 16807 _ (by decide +kernel)).mono ?_
  rintro e u1 ⟨rfl, b1⟩
  have HB1 := Lib.hid (keep2 b1 HB0.out)
  clear HB0 b1
  have KD_2 := Lib.hid (Cs.new u1 (u1.heap.size) #[.int .i64 1234, .int .i64 5, .int .i64 16807, .int .i64 0, .int .i64 0, .bool false, .bool false] 23 (by simp))
  have HB3 : Hid (Below w.heap.size w (u1.alloc (.cells #[.int .i64 1234, .int .i64 5, .int .i64 16807, .int .i64 0, .int .i64 0, .bool false, .bool false] 23))) := HB1.out.alloc HB1.out.size _
  clear HB1
  have KD_4 := Lib.hid (KD_2.out.alloc (.cells #[.int .i64 1, .int .i64 16807, .int .i64 0] 25))
  clear KD_2
  have KA_5 := Lib.hid (Cs.new (u1.alloc (.cells #[.int .i64 1234, .int .i64 5, .int .i64 16807, .int .i64 0, .int .i64 0, .bool false, .bool false] 23)) (u1.heap.size + 1) #[.int .i64 1, .int .i64 16807, .int .i64 0] 25 (by simp))
  have HB6 : Hid (Below w.heap.size w ((u1.alloc (.cells #[.int .i64 1234, .int .i64 5, .int .i64 16807, .int .i64 0, .int .i64 0, .bool false, .bool false] 23)).alloc (.cells #[.int .i64 1, .int .i64 16807, .int .i64 0] 25))) := HB3.out.alloc HB3.out.size _
  clear HB3
  go_upto_region 2 with fail
  obtain ⟨wq, hwq⟩ : ∃ wq, ((u1.alloc (.cells #[.int .i64 1234, .int .i64 5, .int .i64 16807, .int .i64 0, .int .i64 0, .bool false, .bool false] 23)).alloc (.cells #[.int .i64 1, .int .i64 16807, .int .i64 0] 25)) = wq := ⟨_, rfl⟩
  rw [hwq] at KD_4
  rw [hwq] at KA_5
  rw [hwq] at HB6 ⊢
  clear hwq
  go_cut [3, 4, 5] from 28 to 33 (fun p q r wc => ∃ n1 n2 : Nat, p = .pointer (some ⟨n1, 0, none⟩) ∧ q = .pointer (some ⟨n2, 0, none⟩) ∧ r = .int .i64 0 ∧ Hid (Cs wc n1 #[.int .i64 1234, .int .i64 7, .int .i64 823543, .int .i64 16807, .int .i64 0, .bool true, .bool false]) ∧ Hid (Cs wc n2 #[.int .i64 2, .int .i64 823543, .int .i64 556964747]) ∧ Below wq.heap.size wq wc)
  case first =>
    refine region_inv (fun f a w => ∃ (n1 n2 : Nat) (v28 v29 v30 v27 v31 v32 v33 v3 v4 v5 : Value), a = { tmps := #[.bool false, .pointer (some ⟨u1.heap.size, 0, none⟩), .pointer (some ⟨u1.heap.size + 1, 0, none⟩), v3, v4, v5, undef, undef, undef, undef, undef, undef, undef, undef, undef, undef, undef, undef, undef, undef, undef, undef, undef, .tuple #[.agg #[.int .i64 1234, .int .i64 5, .int .i64 16807, .int .i64 0, .int .i64 0, .bool false, .bool false], .agg #[.int .i64 1, .int .i64 16807, .int .i64 0]], .tuple #[.agg #[.int .i64 1234, .int .i64 5, .int .i64 16807, .int .i64 0, .int .i64 0, .bool false, .bool false], .agg #[.int .i64 1, .int .i64 16807, .int .i64 0]], .agg #[.int .i64 1234, .int .i64 5, .int .i64 16807, .int .i64 0, .int .i64 0, .bool false, .bool false], .agg #[.int .i64 1, .int .i64 16807, .int .i64 0], v27, v28, v29, v30, v31, v32, v33, undef, undef, undef, undef, undef, undef, undef, undef, undef, undef, undef, undef, undef, undef, undef, undef, undef, undef, undef, undef, undef, undef, undef, undef, undef, undef, undef, undef, undef, undef, undef, undef, undef, undef, undef, undef, undef, undef, undef, undef, undef, undef, undef, undef, undef, undef, undef, undef, undef, undef, undef, undef, undef, undef, undef, undef, undef, undef, undef, undef, undef, undef, undef, undef, undef, undef, undef, undef, undef, undef, undef, undef, undef, undef, undef, undef, undef, undef, undef, undef, undef, undef, undef, undef, undef, undef, undef, undef, undef, undef, undef, undef, undef, undef, undef, undef, undef, undef, undef, undef, undef, undef, undef, undef, undef, undef, undef, undef, undef, undef, undef, undef, undef, undef], defers := [] } ∧ Mem wq w n1 n2 v3 v4 (f 7) (f 9) (f 8) (f 10) #[.int .i64 1234, .int .i64 7, .int .i64 823543, .int .i64 16807, .int .i64 0, .bool true, .bool false] #[.int .i64 2, .int .i64 823543, .int .i64 556964747] ∧ (f 0 = true → v28 = .agg #[.int .i64 1234, .int .i64 7, .int .i64 823543, .int .i64 0, .int .i64 0, .bool true, .bool false]) ∧ (f 1 = true → v29 = .agg #[.int .i64 1, .int .i64 16807, .int .i64 0]) ∧ (f 2 = true → v30 = .tuple #[.agg #[.int .i64 1234, .int .i64 7, .int .i64 823543, .int .i64 16807, .int .i64 0, .bool true, .bool false], .agg #[.int .i64 2, .int .i64 823543, .int .i64 556964747], .int .i64 0]) ∧ (f 3 = true → v27 = .tuple #[.agg #[.int .i64 1234, .int .i64 7, .int .i64 823543, .int .i64 16807, .int .i64 0, .bool true, .bool false], .agg #[.int .i64 2, .int .i64 823543, .int .i64 556964747], .int .i64 0]) ∧ (f 4 = true → v31 = .agg #[.int .i64 1234, .int .i64 7, .int .i64 823543, .int .i64 16807, .int .i64 0, .bool true, .bool false]) ∧ (f 5 = true → v32 = .agg #[.int .i64 2, .int .i64 823543, .int .i64 556964747]) ∧ (f 6 = true → v33 = .int .i64 0) ∧ (f 11 = true → v5 = .int .i64 0)) (by kernel_rfl) (by decide +kernel) ?_ ?_ ?_
    · exact ⟨_, _, _, _, _, _, _, _, _, _, _, _, rfl, Mem.start _ _ _ _ _, (by simp), (by simp), (by simp), (by simp), (by simp), (by simp), (by simp), (by simp)⟩
    · refine ⟨?_, ?_, ?_, ?_, ?_, ?_, ?_, ?_, ?_, ?_, ?_, ?_, trivial⟩
      · intro f a w hf ha hJ K' hK
        obtain ⟨n1, n2, v28, v29, v30, v27, v31, v32, v33, v3, v4, v5, rfl, hM, g28, g29, g30, g27, g31, g32, g33, g5⟩ := hJ
        replace hK := Lib.hid hK
        replace hM := Lib.hid hM
        replace g28 := Lib.hid g28
        replace g29 := Lib.hid g29
        replace g30 := Lib.hid g30
        replace g27 := Lib.hid g27
        replace g31 := Lib.hid g31
        replace g32 := Lib.hid g32
        replace g33 := Lib.hid g33
        replace g5 := Lib.hid g5
        go_simp
        go_at_call 14
        refine (hub_is 1234 7 823543 _ (by decide +kernel)).mono ?_
        rintro e w4 ⟨rfl, b4⟩
        exact hK.out _ _ ⟨n1, n2, .agg #[.int .i64 1234, .int .i64 7, .int .i64 823543, .int .i64 0, .int .i64 0, .bool true, .bool false], v29, v30, v27, v31, v32, v33, v3, v4, v5, rfl, hM.out.step b4, fun _ => rfl, g29.out, g30.out, g27.out, g31.out, g32.out, g33.out, g5.out⟩
      · intro f a w hf ha hJ K' hK
        obtain ⟨n1, n2, v28, v29, v30, v27, v31, v32, v33, v3, v4, v5, rfl, hM, g28, g29, g30, g27, g31, g32, g33, g5⟩ := hJ
        replace hK := Lib.hid hK
        replace hM := Lib.hid hM
        replace g28 := Lib.hid g28
        replace g29 := Lib.hid g29
        replace g30 := Lib.hid g30
        replace g27 := Lib.hid g27
        replace g31 := Lib.hid g31
        replace g32 := Lib.hid g32
        replace g33 := Lib.hid g33
        replace g5 := Lib.hid g5
        have hA := KA_5.out.step hM.out.below
        have xA0 := hA.c 0 rfl
        have xA1 := hA.c 1 rfl
        have xA2 := hA.c 2 rfl
        have zA := hA.2.2
        clear hA
        go_simp
        exact hK.out _ _ ⟨n1, n2, v28, .agg #[.int .i64 1, .int .i64 16807, .int .i64 0], v30, v27, v31, v32, v33, v3, v4, v5, rfl, hM.out, g28.out, fun _ => rfl, g30.out, g27.out, g31.out, g32.out, g33.out, g5.out⟩
      · intro f a w hf ha hJ K' hK
        obtain ⟨n1, n2, v28, v29, v30, v27, v31, v32, v33, v3, v4, v5, rfl, hM, g28, g29, g30, g27, g31, g32, g33, g5⟩ := hJ
        replace hK := Lib.hid hK
        replace hM := Lib.hid hM
        replace g28 := Lib.hid g28
        replace g29 := Lib.hid g29
        replace g30 := Lib.hid g30
        replace g27 := Lib.hid g27
        replace g31 := Lib.hid g31
        replace g32 := Lib.hid g32
        replace g33 := Lib.hid g33
        replace g5 := Lib.hid g5
        simp [Region.binds] at ha
        have hb0 : f 0 = true := by simp [ha]
        have hb1 : f 1 = true := by simp [ha]
        obtain rfl := g28.out hb0
        obtain rfl := g29.out hb1
        go_simp
        go_at_call 12
        refine (recv_is 1234 7 823543 0 0 true false 1 16807 0 0 _ _ _ rw1).mono ?_
        rintro e w5 ⟨rfl, b5⟩
        exact hK.out _ _ ⟨n1, n2, .agg #[.int .i64 1234, .int .i64 7, .int .i64 823543, .int .i64 0, .int .i64 0, .bool true, .bool false], .agg #[.int .i64 1, .int .i64 16807, .int .i64 0], .tuple #[.agg #[.int .i64 1234, .int .i64 7, .int .i64 823543, .int .i64 16807, .int .i64 0, .bool true, .bool false], .agg #[.int .i64 2, .int .i64 823543, .int .i64 556964747], .int .i64 0], v27, v31, v32, v33, v3, v4, v5, rfl, hM.out.step b5, g28.out, g29.out, fun _ => rfl, g27.out, g31.out, g32.out, g33.out, g5.out⟩
      · intro f a w hf ha hJ K' hK
        obtain ⟨n1, n2, v28, v29, v30, v27, v31, v32, v33, v3, v4, v5, rfl, hM, g28, g29, g30, g27, g31, g32, g33, g5⟩ := hJ
        replace hK := Lib.hid hK
        replace hM := Lib.hid hM
        replace g28 := Lib.hid g28
        replace g29 := Lib.hid g29
        replace g30 := Lib.hid g30
        replace g27 := Lib.hid g27
        replace g31 := Lib.hid g31
        replace g32 := Lib.hid g32
        replace g33 := Lib.hid g33
        replace g5 := Lib.hid g5
        simp [Region.binds] at ha
        have hb2 : f 2 = true := by simp [ha]
        obtain rfl := g30.out hb2
        go_simp
        exact hK.out _ _ ⟨n1, n2, v28, v29, .tuple #[.agg #[.int .i64 1234, .int .i64 7, .int .i64 823543, .int .i64 16807, .int .i64 0, .bool true, .bool false], .agg #[.int .i64 2, .int .i64 823543, .int .i64 556964747], .int .i64 0], .tuple #[.agg #[.int .i64 1234, .int .i64 7, .int .i64 823543, .int .i64 16807, .int .i64 0, .bool true, .bool false], .agg #[.int .i64 2, .int .i64 823543, .int .i64 556964747], .int .i64 0], v31, v32, v33, v3, v4, v5, rfl, hM.out, g28.out, g29.out, g30.out, fun _ => rfl, g31.out, g32.out, g33.out, g5.out⟩
      · intro f a w hf ha hJ K' hK
        obtain ⟨n1, n2, v28, v29, v30, v27, v31, v32, v33, v3, v4, v5, rfl, hM, g28, g29, g30, g27, g31, g32, g33, g5⟩ := hJ
        replace hK := Lib.hid hK
        replace hM := Lib.hid hM
        replace g28 := Lib.hid g28
        replace g29 := Lib.hid g29
        replace g30 := Lib.hid g30
        replace g27 := Lib.hid g27
        replace g31 := Lib.hid g31
        replace g32 := Lib.hid g32
        replace g33 := Lib.hid g33
        replace g5 := Lib.hid g5
        simp [Region.binds] at ha
        have hb3 : f 3 = true := by simp [ha]
        obtain rfl := g27.out hb3
        go_simp
        exact hK.out _ _ ⟨n1, n2, v28, v29, v30, .tuple #[.agg #[.int .i64 1234, .int .i64 7, .int .i64 823543, .int .i64 16807, .int .i64 0, .bool true, .bool false], .agg #[.int .i64 2, .int .i64 823543, .int .i64 556964747], .int .i64 0], .agg #[.int .i64 1234, .int .i64 7, .int .i64 823543, .int .i64 16807, .int .i64 0, .bool true, .bool false], v32, v33, v3, v4, v5, rfl, hM.out, g28.out, g29.out, g30.out, g27.out, fun _ => rfl, g32.out, g33.out, g5.out⟩
      · intro f a w hf ha hJ K' hK
        obtain ⟨n1, n2, v28, v29, v30, v27, v31, v32, v33, v3, v4, v5, rfl, hM, g28, g29, g30, g27, g31, g32, g33, g5⟩ := hJ
        replace hK := Lib.hid hK
        replace hM := Lib.hid hM
        replace g28 := Lib.hid g28
        replace g29 := Lib.hid g29
        replace g30 := Lib.hid g30
        replace g27 := Lib.hid g27
        replace g31 := Lib.hid g31
        replace g32 := Lib.hid g32
        replace g33 := Lib.hid g33
        replace g5 := Lib.hid g5
        simp [Region.binds] at ha
        have hb3 : f 3 = true := by simp [ha]
        obtain rfl := g27.out hb3
        go_simp
        exact hK.out _ _ ⟨n1, n2, v28, v29, v30, .tuple #[.agg #[.int .i64 1234, .int .i64 7, .int .i64 823543, .int .i64 16807, .int .i64 0, .bool true, .bool false], .agg #[.int .i64 2, .int .i64 823543, .int .i64 556964747], .int .i64 0], v31, .agg #[.int .i64 2, .int .i64 823543, .int .i64 556964747], v33, v3, v4, v5, rfl, hM.out, g28.out, g29.out, g30.out, g27.out, g31.out, fun _ => rfl, g33.out, g5.out⟩
      · intro f a w hf ha hJ K' hK
        obtain ⟨n1, n2, v28, v29, v30, v27, v31, v32, v33, v3, v4, v5, rfl, hM, g28, g29, g30, g27, g31, g32, g33, g5⟩ := hJ
        replace hK := Lib.hid hK
        replace hM := Lib.hid hM
        replace g28 := Lib.hid g28
        replace g29 := Lib.hid g29
        replace g30 := Lib.hid g30
        replace g27 := Lib.hid g27
        replace g31 := Lib.hid g31
        replace g32 := Lib.hid g32
        replace g33 := Lib.hid g33
        replace g5 := Lib.hid g5
        simp [Region.binds] at ha
        have hb3 : f 3 = true := by simp [ha]
        obtain rfl := g27.out hb3
        go_simp
        exact hK.out _ _ ⟨n1, n2, v28, v29, v30, .tuple #[.agg #[.int .i64 1234, .int .i64 7, .int .i64 823543, .int .i64 16807, .int .i64 0, .bool true, .bool false], .agg #[.int .i64 2, .int .i64 823543, .int .i64 556964747], .int .i64 0], v31, v32, .int .i64 0, v3, v4, v5, rfl, hM.out, g28.out, g29.out, g30.out, g27.out, g31.out, g32.out, fun _ => rfl, g5.out⟩
      · intro f a w hf ha hJ K' hK
        obtain ⟨n1, n2, v28, v29, v30, v27, v31, v32, v33, v3, v4, v5, rfl, hM, g28, g29, g30, g27, g31, g32, g33, g5⟩ := hJ
        replace hK := Lib.hid hK
        replace hM := Lib.hid hM
        replace g28 := Lib.hid g28
        replace g29 := Lib.hid g29
        replace g30 := Lib.hid g30
        replace g27 := Lib.hid g27
        replace g31 := Lib.hid g31
        replace g32 := Lib.hid g32
        replace g33 := Lib.hid g33
        replace g5 := Lib.hid g5
        obtain ⟨m2, hM2⟩ := hM.out.alloc1 hf
        have hM2 := Lib.hid hM2
        clear hM
        go_simp
        exact hK.out _ _ ⟨_, m2, v28, v29, v30, v27, v31, v32, v33, _, v4, v5, rfl, hM2.out, g28.out, g29.out, g30.out, g27.out, g31.out, g32.out, g33.out, g5.out⟩
      · intro f a w hf ha hJ K' hK
        obtain ⟨n1, n2, v28, v29, v30, v27, v31, v32, v33, v3, v4, v5, rfl, hM, g28, g29, g30, g27, g31, g32, g33, g5⟩ := hJ
        replace hK := Lib.hid hK
        replace hM := Lib.hid hM
        replace g28 := Lib.hid g28
        replace g29 := Lib.hid g29
        replace g30 := Lib.hid g30
        replace g27 := Lib.hid g27
        replace g31 := Lib.hid g31
        replace g32 := Lib.hid g32
        replace g33 := Lib.hid g33
        replace g5 := Lib.hid g5
        obtain ⟨m1, hM2⟩ := hM.out.alloc2 hf
        have hM2 := Lib.hid hM2
        clear hM
        go_simp
        exact hK.out _ _ ⟨m1, _, v28, v29, v30, v27, v31, v32, v33, v3, _, v5, rfl, hM2.out, g28.out, g29.out, g30.out, g27.out, g31.out, g32.out, g33.out, g5.out⟩
      · intro f a w hf ha hJ K' hK
        obtain ⟨n1, n2, v28, v29, v30, v27, v31, v32, v33, v3, v4, v5, rfl, hM, g28, g29, g30, g27, g31, g32, g33, g5⟩ := hJ
        replace hK := Lib.hid hK
        replace hM := Lib.hid hM
        replace g28 := Lib.hid g28
        replace g29 := Lib.hid g29
        replace g30 := Lib.hid g30
        replace g27 := Lib.hid g27
        replace g31 := Lib.hid g31
        replace g32 := Lib.hid g32
        replace g33 := Lib.hid g33
        replace g5 := Lib.hid g5
        simp [Region.binds] at ha
        have hb4 : f 4 = true := by simp [ha]
        have hb7 : f 7 = true := by simp [ha]
        obtain rfl := g31.out hb4
        obtain ⟨rfl, hZ⟩ := hM.out.zero1 hb7 hf
        have hZ := Lib.hid hZ
        unfold ptr at hM hK ⊢
        have xZ0 := hZ.out.c 0 rfl
        have yZ0 := hZ.out.f 0 (by simp)
        have xZ1 := hZ.out.c 1 rfl
        have yZ1 := hZ.out.f 1 (by simp)
        have xZ2 := hZ.out.c 2 rfl
        have yZ2 := hZ.out.f 2 (by simp)
        have xZ3 := hZ.out.c 3 rfl
        have yZ3 := hZ.out.f 3 (by simp)
        have xZ4 := hZ.out.c 4 rfl
        have yZ4 := hZ.out.f 4 (by simp)
        have xZ5 := hZ.out.c 5 rfl
        have yZ5 := hZ.out.f 5 (by simp)
        have xZ6 := hZ.out.c 6 rfl
        have yZ6 := hZ.out.f 6 (by simp)
        have zZ := hZ.out.2.2
        go_simp
        have hM3 := hM.out; rw [hb7] at hM3
        have hM4 := hM3.store1 (Turned.all7 hZ.out)
        exact hK.out _ _ ⟨n1, n2, v28, v29, v30, v27, .agg #[.int .i64 1234, .int .i64 7, .int .i64 823543, .int .i64 16807, .int .i64 0, .bool true, .bool false], v32, v33, .pointer (some ⟨n1, 0, none⟩), v4, v5, rfl, (by rw [show up f 9 7 = true from hb7]; exact hM4), g28.out, g29.out, g30.out, g27.out, g31.out, g32.out, g33.out, g5.out⟩
      · intro f a w hf ha hJ K' hK
        obtain ⟨n1, n2, v28, v29, v30, v27, v31, v32, v33, v3, v4, v5, rfl, hM, g28, g29, g30, g27, g31, g32, g33, g5⟩ := hJ
        replace hK := Lib.hid hK
        replace hM := Lib.hid hM
        replace g28 := Lib.hid g28
        replace g29 := Lib.hid g29
        replace g30 := Lib.hid g30
        replace g27 := Lib.hid g27
        replace g31 := Lib.hid g31
        replace g32 := Lib.hid g32
        replace g33 := Lib.hid g33
        replace g5 := Lib.hid g5
        simp [Region.binds] at ha
        have hb5 : f 5 = true := by simp [ha]
        have hb8 : f 8 = true := by simp [ha]
        obtain rfl := g32.out hb5
        obtain ⟨rfl, hZ⟩ := hM.out.zero2 hb8 hf
        have hZ := Lib.hid hZ
        unfold ptr at hM hK ⊢
        have xZ0 := hZ.out.c 0 rfl
        have yZ0 := hZ.out.f 0 (by simp)
        have xZ1 := hZ.out.c 1 rfl
        have yZ1 := hZ.out.f 1 (by simp)
        have xZ2 := hZ.out.c 2 rfl
        have yZ2 := hZ.out.f 2 (by simp)
        have zZ := hZ.out.2.2
        go_simp
        have hM3 := hM.out; rw [hb8] at hM3
        have hM4 := hM3.store2 (Turned.all3 hZ.out)
        exact hK.out _ _ ⟨n1, n2, v28, v29, v30, v27, v31, .agg #[.int .i64 2, .int .i64 823543, .int .i64 556964747], v33, v3, .pointer (some ⟨n2, 0, none⟩), v5, rfl, (by rw [show up f 10 8 = true from hb8]; exact hM4), g28.out, g29.out, g30.out, g27.out, g31.out, g32.out, g33.out, g5.out⟩
      · intro f a w hf ha hJ K' hK
        obtain ⟨n1, n2, v28, v29, v30, v27, v31, v32, v33, v3, v4, v5, rfl, hM, g28, g29, g30, g27, g31, g32, g33, g5⟩ := hJ
        replace hK := Lib.hid hK
        replace hM := Lib.hid hM
        replace g28 := Lib.hid g28
        replace g29 := Lib.hid g29
        replace g30 := Lib.hid g30
        replace g27 := Lib.hid g27
        replace g31 := Lib.hid g31
        replace g32 := Lib.hid g32
        replace g33 := Lib.hid g33
        replace g5 := Lib.hid g5
        simp [Region.binds] at ha
        have hb6 : f 6 = true := by simp [ha]
        obtain rfl := g33.out hb6
        go_simp
        exact hK.out _ _ ⟨n1, n2, v28, v29, v30, v27, v31, v32, .int .i64 0, v3, v4, .int .i64 0, rfl, hM.out, g28.out, g29.out, g30.out, g27.out, g31.out, g32.out, g33.out, fun _ => rfl⟩
    · intro f a w hall hJ
      obtain ⟨n1, n2, v28, v29, v30, v27, v31, v32, v33, v3, v4, v5, rfl, hM, g28, g29, g30, g27, g31, g32, g33, g5⟩ := hJ
      obtain rfl := g5 (hall 11 (by decide))
      rw [hall 7 (by decide), hall 8 (by decide), hall 9 (by decide), hall 10 (by decide)] at hM
      obtain ⟨rfl, h1⟩ := hM.c1 rfl
      obtain ⟨rfl, h2⟩ := hM.c2 rfl
      have hB := hM.below
      clear g28 g29 g30 g27 g31 g32 g33 g5 hM hall
      unfold ptr
      go_wp2
      go_meet
      exact ⟨n1, n2, rfl, rfl, rfl, Lib.hid h1, Lib.hid h2, hB⟩
  case rest =>
    obtain ⟨n1, n2, rfl, rfl, rfl, hJ, hH, hB⟩ := hcut
    have KD_7 := Lib.hid (KD_4.out.step hB)
    clear KD_4
    have KA_8 := Lib.hid (KA_5.out.step hB)
    clear KA_5
    have HB9 := Lib.hid (keep2 hB HB6.out)
    clear HB6 hB
    have xD0 : wc.cell? ⟨u1.heap.size, 0, none⟩ = some (.int .i64 1234) := KD_7.out.c 0 rfl
    have xD1 : wc.cell? ⟨u1.heap.size, 1, none⟩ = some (.int .i64 5) := KD_7.out.c 1 rfl
    have xD2 : wc.cell? ⟨u1.heap.size, 2, none⟩ = some (.int .i64 16807) := KD_7.out.c 2 rfl
    have xD3 : wc.cell? ⟨u1.heap.size, 3, none⟩ = some (.int .i64 0) := KD_7.out.c 3 rfl
    have xD4 : wc.cell? ⟨u1.heap.size, 4, none⟩ = some (.int .i64 0) := KD_7.out.c 4 rfl
    have xD5 : wc.cell? ⟨u1.heap.size, 5, none⟩ = some (.bool false) := KD_7.out.c 5 rfl
    have xD6 : wc.cell? ⟨u1.heap.size, 6, none⟩ = some (.bool false) := KD_7.out.c 6 rfl
    have zD : u1.heap.size < wc.heap.size := KD_7.out.2.2
    have z2D : u1.heap.size < wc.heap.size + 1 := by omega
    have xC0 : wc.cell? ⟨n2, 0, none⟩ = some (.int .i64 2) := hH.out.c 0 rfl
    have xC1 : wc.cell? ⟨n2, 1, none⟩ = some (.int .i64 823543) := hH.out.c 1 rfl
    have xC2 : wc.cell? ⟨n2, 2, none⟩ = some (.int .i64 556964747) := hH.out.c 2 rfl
    have zC : n2 < wc.heap.size := hH.out.2.2
    have z2C : n2 < wc.heap.size + 1 := by omega
    go_wp2_with fail
    refine (recv_is 1234 5 16807 0 0 false false 2 823543 556964747 0 _ _ _ rw2).mono ?_
    rintro e u2 ⟨rfl, b2⟩
    clear xD0 xD1 xD2 xD3 xD4 xD5 xD6 zD z2D xC0 xC1 xC2 zC z2C
    have KD_10 := Lib.hid (KD_7.out.step b2)
    clear KD_7
    have KA_11 := Lib.hid (KA_8.out.step b2)
    clear KA_8
    have KB_12 := Lib.hid (hJ.out.step b2)
    clear hJ
    have KC_13 := Lib.hid (hH.out.step b2)
    clear hH
    have HB14 := Lib.hid (keep2 b2 HB9.out)
    clear HB9 b2
    have KD_15 := Lib.hid (KD_10.out.alloc (.cells #[.int .i64 1234, .int .i64 5, .int .i64 16807, .int .i64 823543, .int .i64 101027544, .bool false, .bool true] 23))
    clear KD_10
    have KA_16 := Lib.hid (KA_11.out.alloc (.cells #[.int .i64 1234, .int .i64 5, .int .i64 16807, .int .i64 823543, .int .i64 101027544, .bool false, .bool true] 23))
    clear KA_11
    have KB_17 := Lib.hid (KB_12.out.alloc (.cells #[.int .i64 1234, .int .i64 5, .int .i64 16807, .int .i64 823543, .int .i64 101027544, .bool false, .bool true] 23))
    clear KB_12
    have KC_18 := Lib.hid (KC_13.out.alloc (.cells #[.int .i64 1234, .int .i64 5, .int .i64 16807, .int .i64 823543, .int .i64 101027544, .bool false, .bool true] 23))
    clear KC_13
    have KE_19 := Lib.hid (Cs.new u2 (u2.heap.size) #[.int .i64 1234, .int .i64 5, .int .i64 16807, .int .i64 823543, .int .i64 101027544, .bool false, .bool true] 23 (by simp))
    have HB20 : Hid (Below w.heap.size w (u2.alloc (.cells #[.int .i64 1234, .int .i64 5, .int .i64 16807, .int .i64 823543, .int .i64 101027544, .bool false, .bool true] 23))) := HB14.out.alloc HB14.out.size _
    clear HB14
    have KD_21 := Lib.hid (KD_15.out.alloc (.cells #[.int .i64 3, .int .i64 0, .int .i64 1606526508] 25))
    clear KD_15
    have KA_22 := Lib.hid (KA_16.out.alloc (.cells #[.int .i64 3, .int .i64 0, .int .i64 1606526508] 25))
    clear KA_16
    have KB_23 := Lib.hid (KB_17.out.alloc (.cells #[.int .i64 3, .int .i64 0, .int .i64 1606526508] 25))
    clear KB_17
    have KC_24 := Lib.hid (KC_18.out.alloc (.cells #[.int .i64 3, .int .i64 0, .int .i64 1606526508] 25))
    clear KC_18
    have KE_25 := Lib.hid (KE_19.out.alloc (.cells #[.int .i64 3, .int .i64 0, .int .i64 1606526508] 25))
    clear KE_19
    have KF_26 := Lib.hid (Cs.new (u2.alloc (.cells #[.int .i64 1234, .int .i64 5, .int .i64 16807, .int .i64 823543, .int .i64 101027544, .bool false, .bool true] 23)) (u2.heap.size + 1) #[.int .i64 3, .int .i64 0, .int .i64 1606526508] 25 (by simp))
    have HB27 : Hid (Below w.heap.size w ((u2.alloc (.cells #[.int .i64 1234, .int .i64 5, .int .i64 16807, .int .i64 823543, .int .i64 101027544, .bool false, .bool true] 23)).alloc (.cells #[.int .i64 3, .int .i64 0, .int .i64 1606526508] 25))) := HB20.out.alloc HB20.out.size _
    clear HB20
    have xB0 : ((u2.alloc (.cells #[.int .i64 1234, .int .i64 5, .int .i64 16807, .int .i64 823543, .int .i64 101027544, .bool false, .bool true] 23)).alloc (.cells #[.int .i64 3, .int .i64 0, .int .i64 1606526508] 25)).cell? ⟨n1, 0, none⟩ = some (.int .i64 1234) := KB_23.out.c 0 rfl
    have xB1 : ((u2.alloc (.cells #[.int .i64 1234, .int .i64 5, .int .i64 16807, .int .i64 823543, .int .i64 101027544, .bool false, .bool true] 23)).alloc (.cells #[.int .i64 3, .int .i64 0, .int .i64 1606526508] 25)).cell? ⟨n1, 1, none⟩ = some (.int .i64 7) := KB_23.out.c 1 rfl
    have xB2 : ((u2.alloc (.cells #[.int .i64 1234, .int .i64 5, .int .i64 16807, .int .i64 823543, .int .i64 101027544, .bool false, .bool true] 23)).alloc (.cells #[.int .i64 3, .int .i64 0, .int .i64 1606526508] 25)).cell? ⟨n1, 2, none⟩ = some (.int .i64 823543) := KB_23.out.c 2 rfl
    have xB3 : ((u2.alloc (.cells #[.int .i64 1234, .int .i64 5, .int .i64 16807, .int .i64 823543, .int .i64 101027544, .bool false, .bool true] 23)).alloc (.cells #[.int .i64 3, .int .i64 0, .int .i64 1606526508] 25)).cell? ⟨n1, 3, none⟩ = some (.int .i64 16807) := KB_23.out.c 3 rfl
    have xB4 : ((u2.alloc (.cells #[.int .i64 1234, .int .i64 5, .int .i64 16807, .int .i64 823543, .int .i64 101027544, .bool false, .bool true] 23)).alloc (.cells #[.int .i64 3, .int .i64 0, .int .i64 1606526508] 25)).cell? ⟨n1, 4, none⟩ = some (.int .i64 0) := KB_23.out.c 4 rfl
    have xB5 : ((u2.alloc (.cells #[.int .i64 1234, .int .i64 5, .int .i64 16807, .int .i64 823543, .int .i64 101027544, .bool false, .bool true] 23)).alloc (.cells #[.int .i64 3, .int .i64 0, .int .i64 1606526508] 25)).cell? ⟨n1, 5, none⟩ = some (.bool true) := KB_23.out.c 5 rfl
    have xB6 : ((u2.alloc (.cells #[.int .i64 1234, .int .i64 5, .int .i64 16807, .int .i64 823543, .int .i64 101027544, .bool false, .bool true] 23)).alloc (.cells #[.int .i64 3, .int .i64 0, .int .i64 1606526508] 25)).cell? ⟨n1, 6, none⟩ = some (.bool false) := KB_23.out.c 6 rfl
    have zB : n1 < ((u2.alloc (.cells #[.int .i64 1234, .int .i64 5, .int .i64 16807, .int .i64 823543, .int .i64 101027544, .bool false, .bool true] 23)).alloc (.cells #[.int .i64 3, .int .i64 0, .int .i64 1606526508] 25)).heap.size := KB_23.out.2.2
    have z2B : n1 < ((u2.alloc (.cells #[.int .i64 1234, .int .i64 5, .int .i64 16807, .int .i64 823543, .int .i64 101027544, .bool false, .bool true] 23)).alloc (.cells #[.int .i64 3, .int .i64 0, .int .i64 1606526508] 25)).heap.size + 1 := by omega
    have xF0 : ((u2.alloc (.cells #[.int .i64 1234, .int .i64 5, .int .i64 16807, .int .i64 823543, .int .i64 101027544, .bool false, .bool true] 23)).alloc (.cells #[.int .i64 3, .int .i64 0, .int .i64 1606526508] 25)).cell? ⟨u2.heap.size + 1, 0, none⟩ = some (.int .i64 3) := KF_26.out.c 0 rfl
    have xF1 : ((u2.alloc (.cells #[.int .i64 1234, .int .i64 5, .int .i64 16807, .int .i64 823543, .int .i64 101027544, .bool false, .bool true] 23)).alloc (.cells #[.int .i64 3, .int .i64 0, .int .i64 1606526508] 25)).cell? ⟨u2.heap.size + 1, 1, none⟩ = some (.int .i64 0) := KF_26.out.c 1 rfl
    have xF2 : ((u2.alloc (.cells #[.int .i64 1234, .int .i64 5, .int .i64 16807, .int .i64 823543, .int .i64 101027544, .bool false, .bool true] 23)).alloc (.cells #[.int .i64 3, .int .i64 0, .int .i64 1606526508] 25)).cell? ⟨u2.heap.size + 1, 2, none⟩ = some (.int .i64 1606526508) := KF_26.out.c 2 rfl
    have zF : u2.heap.size + 1 < ((u2.alloc (.cells #[.int .i64 1234, .int .i64 5, .int .i64 16807, .int .i64 823543, .int .i64 101027544, .bool false, .bool true] 23)).alloc (.cells #[.int .i64 3, .int .i64 0, .int .i64 1606526508] 25)).heap.size := KF_26.out.2.2
    have z2F : u2.heap.size + 1 < ((u2.alloc (.cells #[.int .i64 1234, .int .i64 5, .int .i64 16807, .int .i64 823543, .int .i64 101027544, .bool false, .bool true] 23)).alloc (.cells #[.int .i64 3, .int .i64 0, .int .i64 1606526508] 25)).heap.size + 1 := by omega
    go_wp2_with fail
    refine (recv_is 1234 7 823543 16807 0 true false 3 0 1606526508 0 _ _ _ rw3).mono ?_
    rintro e u3 ⟨rfl, b3⟩
    clear xB0 xB1 xB2 xB3 xB4 xB5 xB6 zB z2B xF0 xF1 xF2 zF z2F
    have KD_28 := Lib.hid (KD_21.out.step b3)
    clear KD_21
    have KA_29 := Lib.hid (KA_22.out.step b3)
    clear KA_22
    have KB_30 := Lib.hid (KB_23.out.step b3)
    clear KB_23
    have KC_31 := Lib.hid (KC_24.out.step b3)
    clear KC_24
    have KE_32 := Lib.hid (KE_25.out.step b3)
    clear KE_25
    have KF_33 := Lib.hid (KF_26.out.step b3)
    clear KF_26
    have HB34 := Lib.hid (keep2 b3 HB27.out)
    clear HB27 b3
    have KD_35 := Lib.hid (KD_28.out.alloc (.cells #[.int .i64 1234, .int .i64 7, .int .i64 823543, .int .i64 16807, .int .i64 101027544, .bool true, .bool true] 23))
    clear KD_28
    have KA_36 := Lib.hid (KA_29.out.alloc (.cells #[.int .i64 1234, .int .i64 7, .int .i64 823543, .int .i64 16807, .int .i64 101027544, .bool true, .bool true] 23))
    clear KA_29
    have KB_37 := Lib.hid (KB_30.out.alloc (.cells #[.int .i64 1234, .int .i64 7, .int .i64 823543, .int .i64 16807, .int .i64 101027544, .bool true, .bool true] 23))
    clear KB_30
    have KC_38 := Lib.hid (KC_31.out.alloc (.cells #[.int .i64 1234, .int .i64 7, .int .i64 823543, .int .i64 16807, .int .i64 101027544, .bool true, .bool true] 23))
    clear KC_31
    have KE_39 := Lib.hid (KE_32.out.alloc (.cells #[.int .i64 1234, .int .i64 7, .int .i64 823543, .int .i64 16807, .int .i64 101027544, .bool true, .bool true] 23))
    clear KE_32
    have KF_40 := Lib.hid (KF_33.out.alloc (.cells #[.int .i64 1234, .int .i64 7, .int .i64 823543, .int .i64 16807, .int .i64 101027544, .bool true, .bool true] 23))
    clear KF_33
    have KG_41 := Lib.hid (Cs.new u3 (u3.heap.size) #[.int .i64 1234, .int .i64 7, .int .i64 823543, .int .i64 16807, .int .i64 101027544, .bool true, .bool true] 23 (by simp))
    have HB42 : Hid (Below w.heap.size w (u3.alloc (.cells #[.int .i64 1234, .int .i64 7, .int .i64 823543, .int .i64 16807, .int .i64 101027544, .bool true, .bool true] 23))) := HB34.out.alloc HB34.out.size _
    clear HB34
    have KD_43 := Lib.hid (KD_35.out.alloc (.cells #[.int .i64 0, .int .i64 0, .int .i64 0] 25))
    clear KD_35
    have KA_44 := Lib.hid (KA_36.out.alloc (.cells #[.int .i64 0, .int .i64 0, .int .i64 0] 25))
    clear KA_36
    have KB_45 := Lib.hid (KB_37.out.alloc (.cells #[.int .i64 0, .int .i64 0, .int .i64 0] 25))
    clear KB_37
    have KC_46 := Lib.hid (KC_38.out.alloc (.cells #[.int .i64 0, .int .i64 0, .int .i64 0] 25))
    clear KC_38
    have KE_47 := Lib.hid (KE_39.out.alloc (.cells #[.int .i64 0, .int .i64 0, .int .i64 0] 25))
    clear KE_39
    have KF_48 := Lib.hid (KF_40.out.alloc (.cells #[.int .i64 0, .int .i64 0, .int .i64 0] 25))
    clear KF_40
    have KG_49 := Lib.hid (KG_41.out.alloc (.cells #[.int .i64 0, .int .i64 0, .int .i64 0] 25))
    clear KG_41
    have KI_50 := Lib.hid (Cs.new (u3.alloc (.cells #[.int .i64 1234, .int .i64 7, .int .i64 823543, .int .i64 16807, .int .i64 101027544, .bool true, .bool true] 23)) (u3.heap.size + 1) #[.int .i64 0, .int .i64 0, .int .i64 0] 25 (by simp))
    have HB51 : Hid (Below w.heap.size w ((u3.alloc (.cells #[.int .i64 1234, .int .i64 7, .int .i64 823543, .int .i64 16807, .int .i64 101027544, .bool true, .bool true] 23)).alloc (.cells #[.int .i64 0, .int .i64 0, .int .i64 0] 25))) := HB42.out.alloc HB42.out.size _
    clear HB42
    have xC0 : ((u3.alloc (.cells #[.int .i64 1234, .int .i64 7, .int .i64 823543, .int .i64 16807, .int .i64 101027544, .bool true, .bool true] 23)).alloc (.cells #[.int .i64 0, .int .i64 0, .int .i64 0] 25)).cell? ⟨n2, 0, none⟩ = some (.int .i64 2) := KC_46.out.c 0 rfl
    have xC1 : ((u3.alloc (.cells #[.int .i64 1234, .int .i64 7, .int .i64 823543, .int .i64 16807, .int .i64 101027544, .bool true, .bool true] 23)).alloc (.cells #[.int .i64 0, .int .i64 0, .int .i64 0] 25)).cell? ⟨n2, 1, none⟩ = some (.int .i64 823543) := KC_46.out.c 1 rfl
    have xC2 : ((u3.alloc (.cells #[.int .i64 1234, .int .i64 7, .int .i64 823543, .int .i64 16807, .int .i64 101027544, .bool true, .bool true] 23)).alloc (.cells #[.int .i64 0, .int .i64 0, .int .i64 0] 25)).cell? ⟨n2, 2, none⟩ = some (.int .i64 556964747) := KC_46.out.c 2 rfl
    have zC : n2 < ((u3.alloc (.cells #[.int .i64 1234, .int .i64 7, .int .i64 823543, .int .i64 16807, .int .i64 101027544, .bool true, .bool true] 23)).alloc (.cells #[.int .i64 0, .int .i64 0, .int .i64 0] 25)).heap.size := KC_46.out.2.2
    have z2C : n2 < ((u3.alloc (.cells #[.int .i64 1234, .int .i64 7, .int .i64 823543, .int .i64 16807, .int .i64 101027544, .bool true, .bool true] 23)).alloc (.cells #[.int .i64 0, .int .i64 0, .int .i64 0] 25)).heap.size + 1 := by omega
    have xE0 : ((u3.alloc (.cells #[.int .i64 1234, .int .i64 7, .int .i64 823543, .int .i64 16807, .int .i64 101027544, .bool true, .bool true] 23)).alloc (.cells #[.int .i64 0, .int .i64 0, .int .i64 0] 25)).cell? ⟨u2.heap.size, 0, none⟩ = some (.int .i64 1234) := KE_47.out.c 0 rfl
    have xE1 : ((u3.alloc (.cells #[.int .i64 1234, .int .i64 7, .int .i64 823543, .int .i64 16807, .int .i64 101027544, .bool true, .bool true] 23)).alloc (.cells #[.int .i64 0, .int .i64 0, .int .i64 0] 25)).cell? ⟨u2.heap.size, 1, none⟩ = some (.int .i64 5) := KE_47.out.c 1 rfl
    have xE2 : ((u3.alloc (.cells #[.int .i64 1234, .int .i64 7, .int .i64 823543, .int .i64 16807, .int .i64 101027544, .bool true, .bool true] 23)).alloc (.cells #[.int .i64 0, .int .i64 0, .int .i64 0] 25)).cell? ⟨u2.heap.size, 2, none⟩ = some (.int .i64 16807) := KE_47.out.c 2 rfl
    have xE3 : ((u3.alloc (.cells #[.int .i64 1234, .int .i64 7, .int .i64 823543, .int .i64 16807, .int .i64 101027544, .bool true, .bool true] 23)).alloc (.cells #[.int .i64 0, .int .i64 0, .int .i64 0] 25)).cell? ⟨u2.heap.size, 3, none⟩ = some (.int .i64 823543) := KE_47.out.c 3 rfl
    have xE4 : ((u3.alloc (.cells #[.int .i64 1234, .int .i64 7, .int .i64 823543, .int .i64 16807, .int .i64 101027544, .bool true, .bool true] 23)).alloc (.cells #[.int .i64 0, .int .i64 0, .int .i64 0] 25)).cell? ⟨u2.heap.size, 4, none⟩ = some (.int .i64 101027544) := KE_47.out.c 4 rfl
    have xE5 : ((u3.alloc (.cells #[.int .i64 1234, .int .i64 7, .int .i64 823543, .int .i64 16807, .int .i64 101027544, .bool true, .bool true] 23)).alloc (.cells #[.int .i64 0, .int .i64 0, .int .i64 0] 25)).cell? ⟨u2.heap.size, 5, none⟩ = some (.bool false) := KE_47.out.c 5 rfl
    have xE6 : ((u3.alloc (.cells #[.int .i64 1234, .int .i64 7, .int .i64 823543, .int .i64 16807, .int .i64 101027544, .bool true, .bool true] 23)).alloc (.cells #[.int .i64 0, .int .i64 0, .int .i64 0] 25)).cell? ⟨u2.heap.size, 6, none⟩ = some (.bool true) := KE_47.out.c 6 rfl
    have zE : u2.heap.size < ((u3.alloc (.cells #[.int .i64 1234, .int .i64 7, .int .i64 823543, .int .i64 16807, .int .i64 101027544, .bool true, .bool true] 23)).alloc (.cells #[.int .i64 0, .int .i64 0, .int .i64 0] 25)).heap.size := KE_47.out.2.2
    have z2E : u2.heap.size < ((u3.alloc (.cells #[.int .i64 1234, .int .i64 7, .int .i64 823543, .int .i64 16807, .int .i64 101027544, .bool true, .bool true] 23)).alloc (.cells #[.int .i64 0, .int .i64 0, .int .i64 0] 25)).heap.size + 1 := by omega
    go_wp2_with fail
    refine (recv_is 1234 5 16807 823543 101027544 false true 2 823543 556964747 28 _ _ _ rw4).mono ?_
    rintro e u4 ⟨rfl, b4⟩
    clear xC0 xC1 xC2 zC z2C xE0 xE1 xE2 xE3 xE4 xE5 xE6 zE z2E
    have KD_52 := Lib.hid (KD_43.out.step b4)
    clear KD_43
    have KA_53 := Lib.hid (KA_44.out.step b4)
    clear KA_44
    have KB_54 := Lib.hid (KB_45.out.step b4)
    clear KB_45
    have KC_55 := Lib.hid (KC_46.out.step b4)
    clear KC_46
    have KE_56 := Lib.hid (KE_47.out.step b4)
    clear KE_47
    have KF_57 := Lib.hid (KF_48.out.step b4)
    clear KF_48
    have KG_58 := Lib.hid (KG_49.out.step b4)
    clear KG_49
    have KI_59 := Lib.hid (KI_50.out.step b4)
    clear KI_50
    have HB60 := Lib.hid (keep2 b4 HB51.out)
    clear HB51 b4
    have KD_61 := Lib.hid (KD_52.out.alloc (.cells #[.int .i64 0, .int .i64 0, .int .i64 0, .int .i64 0, .int .i64 0, .bool false, .bool false] 23))
    clear KD_52
    have KA_62 := Lib.hid (KA_53.out.alloc (.cells #[.int .i64 0, .int .i64 0, .int .i64 0, .int .i64 0, .int .i64 0, .bool false, .bool false] 23))
    clear KA_53
    have KB_63 := Lib.hid (KB_54.out.alloc (.cells #[.int .i64 0, .int .i64 0, .int .i64 0, .int .i64 0, .int .i64 0, .bool false, .bool false] 23))
    clear KB_54
    have KC_64 := Lib.hid (KC_55.out.alloc (.cells #[.int .i64 0, .int .i64 0, .int .i64 0, .int .i64 0, .int .i64 0, .bool false, .bool false] 23))
    clear KC_55
    have KE_65 := Lib.hid (KE_56.out.alloc (.cells #[.int .i64 0, .int .i64 0, .int .i64 0, .int .i64 0, .int .i64 0, .bool false, .bool false] 23))
    clear KE_56
    have KF_66 := Lib.hid (KF_57.out.alloc (.cells #[.int .i64 0, .int .i64 0, .int .i64 0, .int .i64 0, .int .i64 0, .bool false, .bool false] 23))
    clear KF_57
    have KG_67 := Lib.hid (KG_58.out.alloc (.cells #[.int .i64 0, .int .i64 0, .int .i64 0, .int .i64 0, .int .i64 0, .bool false, .bool false] 23))
    clear KG_58
    have KI_68 := Lib.hid (KI_59.out.alloc (.cells #[.int .i64 0, .int .i64 0, .int .i64 0, .int .i64 0, .int .i64 0, .bool false, .bool false] 23))
    clear KI_59
    have HB69 : Hid (Below w.heap.size w (u4.alloc (.cells #[.int .i64 0, .int .i64 0, .int .i64 0, .int .i64 0, .int .i64 0, .bool false, .bool false] 23))) := HB60.out.alloc HB60.out.size _
    clear HB60
    have KD_70 := Lib.hid (KD_61.out.alloc (.cells #[.int .i64 0, .int .i64 0, .int .i64 0] 25))
    clear KD_61
    have KA_71 := Lib.hid (KA_62.out.alloc (.cells #[.int .i64 0, .int .i64 0, .int .i64 0] 25))
    clear KA_62
    have KB_72 := Lib.hid (KB_63.out.alloc (.cells #[.int .i64 0, .int .i64 0, .int .i64 0] 25))
    clear KB_63
    have KC_73 := Lib.hid (KC_64.out.alloc (.cells #[.int .i64 0, .int .i64 0, .int .i64 0] 25))
    clear KC_64
    have KE_74 := Lib.hid (KE_65.out.alloc (.cells #[.int .i64 0, .int .i64 0, .int .i64 0] 25))
    clear KE_65
    have KF_75 := Lib.hid (KF_66.out.alloc (.cells #[.int .i64 0, .int .i64 0, .int .i64 0] 25))
    clear KF_66
    have KG_76 := Lib.hid (KG_67.out.alloc (.cells #[.int .i64 0, .int .i64 0, .int .i64 0] 25))
    clear KG_67
    have KI_77 := Lib.hid (KI_68.out.alloc (.cells #[.int .i64 0, .int .i64 0, .int .i64 0] 25))
    clear KI_68
    have HB78 : Hid (Below w.heap.size w ((u4.alloc (.cells #[.int .i64 0, .int .i64 0, .int .i64 0, .int .i64 0, .int .i64 0, .bool false, .bool false] 23)).alloc (.cells #[.int .i64 0, .int .i64 0, .int .i64 0] 25))) := HB69.out.alloc HB69.out.size _
    clear HB69
    have xD0 : ((u4.alloc (.cells #[.int .i64 0, .int .i64 0, .int .i64 0, .int .i64 0, .int .i64 0, .bool false, .bool false] 23)).alloc (.cells #[.int .i64 0, .int .i64 0, .int .i64 0] 25)).cell? ⟨u1.heap.size, 0, none⟩ = some (.int .i64 1234) := KD_70.out.c 0 rfl
    have xD1 : ((u4.alloc (.cells #[.int .i64 0, .int .i64 0, .int .i64 0, .int .i64 0, .int .i64 0, .bool false, .bool false] 23)).alloc (.cells #[.int .i64 0, .int .i64 0, .int .i64 0] 25)).cell? ⟨u1.heap.size, 1, none⟩ = some (.int .i64 5) := KD_70.out.c 1 rfl
    have xD2 : ((u4.alloc (.cells #[.int .i64 0, .int .i64 0, .int .i64 0, .int .i64 0, .int .i64 0, .bool false, .bool false] 23)).alloc (.cells #[.int .i64 0, .int .i64 0, .int .i64 0] 25)).cell? ⟨u1.heap.size, 2, none⟩ = some (.int .i64 16807) := KD_70.out.c 2 rfl
    have xD3 : ((u4.alloc (.cells #[.int .i64 0, .int .i64 0, .int .i64 0, .int .i64 0, .int .i64 0, .bool false, .bool false] 23)).alloc (.cells #[.int .i64 0, .int .i64 0, .int .i64 0] 25)).cell? ⟨u1.heap.size, 3, none⟩ = some (.int .i64 0) := KD_70.out.c 3 rfl
    have xD4 : ((u4.alloc (.cells #[.int .i64 0, .int .i64 0, .int .i64 0, .int .i64 0, .int .i64 0, .bool false, .bool false] 23)).alloc (.cells #[.int .i64 0, .int .i64 0, .int .i64 0] 25)).cell? ⟨u1.heap.size, 4, none⟩ = some (.int .i64 0) := KD_70.out.c 4 rfl
    have xD5 : ((u4.alloc (.cells #[.int .i64 0, .int .i64 0, .int .i64 0, .int .i64 0, .int .i64 0, .bool false, .bool false] 23)).alloc (.cells #[.int .i64 0, .int .i64 0, .int .i64 0] 25)).cell? ⟨u1.heap.size, 5, none⟩ = some (.bool false) := KD_70.out.c 5 rfl
    have xD6 : ((u4.alloc (.cells #[.int .i64 0, .int .i64 0, .int .i64 0, .int .i64 0, .int .i64 0, .bool false, .bool false] 23)).alloc (.cells #[.int .i64 0, .int .i64 0, .int .i64 0] 25)).cell? ⟨u1.heap.size, 6, none⟩ = some (.bool false) := KD_70.out.c 6 rfl
    have zD : u1.heap.size < ((u4.alloc (.cells #[.int .i64 0, .int .i64 0, .int .i64 0, .int .i64 0, .int .i64 0, .bool false, .bool false] 23)).alloc (.cells #[.int .i64 0, .int .i64 0, .int .i64 0] 25)).heap.size := KD_70.out.2.2
    have z2D : u1.heap.size < ((u4.alloc (.cells #[.int .i64 0, .int .i64 0, .int .i64 0, .int .i64 0, .int .i64 0, .bool false, .bool false] 23)).alloc (.cells #[.int .i64 0, .int .i64 0, .int .i64 0] 25)).heap.size + 1 := by omega
    have xC0 : ((u4.alloc (.cells #[.int .i64 0, .int .i64 0, .int .i64 0, .int .i64 0, .int .i64 0, .bool false, .bool false] 23)).alloc (.cells #[.int .i64 0, .int .i64 0, .int .i64 0] 25)).cell? ⟨n2, 0, none⟩ = some (.int .i64 2) := KC_73.out.c 0 rfl
    have xC1 : ((u4.alloc (.cells #[.int .i64 0, .int .i64 0, .int .i64 0, .int .i64 0, .int .i64 0, .bool false, .bool false] 23)).alloc (.cells #[.int .i64 0, .int .i64 0, .int .i64 0] 25)).cell? ⟨n2, 1, none⟩ = some (.int .i64 823543) := KC_73.out.c 1 rfl
    have xC2 : ((u4.alloc (.cells #[.int .i64 0, .int .i64 0, .int .i64 0, .int .i64 0, .int .i64 0, .bool false, .bool false] 23)).alloc (.cells #[.int .i64 0, .int .i64 0, .int .i64 0] 25)).cell? ⟨n2, 2, none⟩ = some (.int .i64 556964747) := KC_73.out.c 2 rfl
    have zC : n2 < ((u4.alloc (.cells #[.int .i64 0, .int .i64 0, .int .i64 0, .int .i64 0, .int .i64 0, .bool false, .bool false] 23)).alloc (.cells #[.int .i64 0, .int .i64 0, .int .i64 0] 25)).heap.size := KC_73.out.2.2
    have z2C : n2 < ((u4.alloc (.cells #[.int .i64 0, .int .i64 0, .int .i64 0, .int .i64 0, .int .i64 0, .bool false, .bool false] 23)).alloc (.cells #[.int .i64 0, .int .i64 0, .int .i64 0] 25)).heap.size + 1 := by omega
    go_wp2_with fail
    refine (recv_is 1234 5 16807 0 0 false false 2 823543 556964748 17 _ _ _ rw5).mono ?_
    rintro e u5 ⟨rfl, b5⟩
    clear xD0 xD1 xD2 xD3 xD4 xD5 xD6 zD z2D xC0 xC1 xC2 zC z2C
    have KD_79 := Lib.hid (KD_70.out.step b5)
    clear KD_70
    have KA_80 := Lib.hid (KA_71.out.step b5)
    clear KA_71
    have KB_81 := Lib.hid (KB_72.out.step b5)
    clear KB_72
    have KC_82 := Lib.hid (KC_73.out.step b5)
    clear KC_73
    have KE_83 := Lib.hid (KE_74.out.step b5)
    clear KE_74
    have KF_84 := Lib.hid (KF_75.out.step b5)
    clear KF_75
    have KG_85 := Lib.hid (KG_76.out.step b5)
    clear KG_76
    have KI_86 := Lib.hid (KI_77.out.step b5)
    clear KI_77
    have HB87 := Lib.hid (keep2 b5 HB78.out)
    clear HB78 b5
    clear KD_79
    have KA_88 := Lib.hid (KA_80.out.alloc (.cells #[.int .i64 0, .int .i64 0, .int .i64 0, .int .i64 0, .int .i64 0, .bool false, .bool false] 23))
    clear KA_80
    have KB_89 := Lib.hid (KB_81.out.alloc (.cells #[.int .i64 0, .int .i64 0, .int .i64 0, .int .i64 0, .int .i64 0, .bool false, .bool false] 23))
    clear KB_81
    have KC_90 := Lib.hid (KC_82.out.alloc (.cells #[.int .i64 0, .int .i64 0, .int .i64 0, .int .i64 0, .int .i64 0, .bool false, .bool false] 23))
    clear KC_82
    have KE_91 := Lib.hid (KE_83.out.alloc (.cells #[.int .i64 0, .int .i64 0, .int .i64 0, .int .i64 0, .int .i64 0, .bool false, .bool false] 23))
    clear KE_83
    have KF_92 := Lib.hid (KF_84.out.alloc (.cells #[.int .i64 0, .int .i64 0, .int .i64 0, .int .i64 0, .int .i64 0, .bool false, .bool false] 23))
    clear KF_84
    have KG_93 := Lib.hid (KG_85.out.alloc (.cells #[.int .i64 0, .int .i64 0, .int .i64 0, .int .i64 0, .int .i64 0, .bool false, .bool false] 23))
    clear KG_85
    have KI_94 := Lib.hid (KI_86.out.alloc (.cells #[.int .i64 0, .int .i64 0, .int .i64 0, .int .i64 0, .int .i64 0, .bool false, .bool false] 23))
    clear KI_86
    have HB95 : Hid (Below w.heap.size w (u5.alloc (.cells #[.int .i64 0, .int .i64 0, .int .i64 0, .int .i64 0, .int .i64 0, .bool false, .bool false] 23))) := HB87.out.alloc HB87.out.size _
    clear HB87
    have KA_96 := Lib.hid (KA_88.out.alloc (.cells #[.int .i64 0, .int .i64 0, .int .i64 0] 25))
    clear KA_88
    have KB_97 := Lib.hid (KB_89.out.alloc (.cells #[.int .i64 0, .int .i64 0, .int .i64 0] 25))
    clear KB_89
    have KC_98 := Lib.hid (KC_90.out.alloc (.cells #[.int .i64 0, .int .i64 0, .int .i64 0] 25))
    clear KC_90
    have KE_99 := Lib.hid (KE_91.out.alloc (.cells #[.int .i64 0, .int .i64 0, .int .i64 0] 25))
    clear KE_91
    have KF_100 := Lib.hid (KF_92.out.alloc (.cells #[.int .i64 0, .int .i64 0, .int .i64 0] 25))
    clear KF_92
    have KG_101 := Lib.hid (KG_93.out.alloc (.cells #[.int .i64 0, .int .i64 0, .int .i64 0] 25))
    clear KG_93
    have KI_102 := Lib.hid (KI_94.out.alloc (.cells #[.int .i64 0, .int .i64 0, .int .i64 0] 25))
    clear KI_94
    have HB103 : Hid (Below w.heap.size w ((u5.alloc (.cells #[.int .i64 0, .int .i64 0, .int .i64 0, .int .i64 0, .int .i64 0, .bool false, .bool false] 23)).alloc (.cells #[.int .i64 0, .int .i64 0, .int .i64 0] 25))) := HB95.out.alloc HB95.out.size _
    clear HB95
    have xB0 : ((u5.alloc (.cells #[.int .i64 0, .int .i64 0, .int .i64 0, .int .i64 0, .int .i64 0, .bool false, .bool false] 23)).alloc (.cells #[.int .i64 0, .int .i64 0, .int .i64 0] 25)).cell? ⟨n1, 0, none⟩ = some (.int .i64 1234) := KB_97.out.c 0 rfl
    have xB1 : ((u5.alloc (.cells #[.int .i64 0, .int .i64 0, .int .i64 0, .int .i64 0, .int .i64 0, .bool false, .bool false] 23)).alloc (.cells #[.int .i64 0, .int .i64 0, .int .i64 0] 25)).cell? ⟨n1, 1, none⟩ = some (.int .i64 7) := KB_97.out.c 1 rfl
    have xB2 : ((u5.alloc (.cells #[.int .i64 0, .int .i64 0, .int .i64 0, .int .i64 0, .int .i64 0, .bool false, .bool false] 23)).alloc (.cells #[.int .i64 0, .int .i64 0, .int .i64 0] 25)).cell? ⟨n1, 2, none⟩ = some (.int .i64 823543) := KB_97.out.c 2 rfl
    have xB3 : ((u5.alloc (.cells #[.int .i64 0, .int .i64 0, .int .i64 0, .int .i64 0, .int .i64 0, .bool false, .bool false] 23)).alloc (.cells #[.int .i64 0, .int .i64 0, .int .i64 0] 25)).cell? ⟨n1, 3, none⟩ = some (.int .i64 16807) := KB_97.out.c 3 rfl
    have xB4 : ((u5.alloc (.cells #[.int .i64 0, .int .i64 0, .int .i64 0, .int .i64 0, .int .i64 0, .bool false, .bool false] 23)).alloc (.cells #[.int .i64 0, .int .i64 0, .int .i64 0] 25)).cell? ⟨n1, 4, none⟩ = some (.int .i64 0) := KB_97.out.c 4 rfl
    have xB5 : ((u5.alloc (.cells #[.int .i64 0, .int .i64 0, .int .i64 0, .int .i64 0, .int .i64 0, .bool false, .bool false] 23)).alloc (.cells #[.int .i64 0, .int .i64 0, .int .i64 0] 25)).cell? ⟨n1, 5, none⟩ = some (.bool true) := KB_97.out.c 5 rfl
    have xB6 : ((u5.alloc (.cells #[.int .i64 0, .int .i64 0, .int .i64 0, .int .i64 0, .int .i64 0, .bool false, .bool false] 23)).alloc (.cells #[.int .i64 0, .int .i64 0, .int .i64 0] 25)).cell? ⟨n1, 6, none⟩ = some (.bool false) := KB_97.out.c 6 rfl
    have zB : n1 < ((u5.alloc (.cells #[.int .i64 0, .int .i64 0, .int .i64 0, .int .i64 0, .int .i64 0, .bool false, .bool false] 23)).alloc (.cells #[.int .i64 0, .int .i64 0, .int .i64 0] 25)).heap.size := KB_97.out.2.2
    have z2B : n1 < ((u5.alloc (.cells #[.int .i64 0, .int .i64 0, .int .i64 0, .int .i64 0, .int .i64 0, .bool false, .bool false] 23)).alloc (.cells #[.int .i64 0, .int .i64 0, .int .i64 0] 25)).heap.size + 1 := by omega
    go_wp2_with fail
    refine (recv_is 1234 7 823543 16807 0 true false 1 1 0 1 _ _ _ rw6).mono ?_
    rintro e u6 ⟨rfl, b6⟩
    clear xB0 xB1 xB2 xB3 xB4 xB5 xB6 zB z2B
    have KA_104 := Lib.hid (KA_96.out.step b6)
    clear KA_96
    have KB_105 := Lib.hid (KB_97.out.step b6)
    clear KB_97
    have KC_106 := Lib.hid (KC_98.out.step b6)
    clear KC_98
    have KE_107 := Lib.hid (KE_99.out.step b6)
    clear KE_99
    have KF_108 := Lib.hid (KF_100.out.step b6)
    clear KF_100
    have KG_109 := Lib.hid (KG_101.out.step b6)
    clear KG_101
    have KI_110 := Lib.hid (KI_102.out.step b6)
    clear KI_102
    have HB111 := Lib.hid (keep2 b6 HB103.out)
    clear HB103 b6
    clear KB_105
    have KA_112 := Lib.hid (KA_104.out.alloc (.cells #[.int .i64 0, .int .i64 0, .int .i64 0, .int .i64 0, .int .i64 0, .bool false, .bool false] 23))
    clear KA_104
    have KC_113 := Lib.hid (KC_106.out.alloc (.cells #[.int .i64 0, .int .i64 0, .int .i64 0, .int .i64 0, .int .i64 0, .bool false, .bool false] 23))
    clear KC_106
    have KE_114 := Lib.hid (KE_107.out.alloc (.cells #[.int .i64 0, .int .i64 0, .int .i64 0, .int .i64 0, .int .i64 0, .bool false, .bool false] 23))
    clear KE_107
    have KF_115 := Lib.hid (KF_108.out.alloc (.cells #[.int .i64 0, .int .i64 0, .int .i64 0, .int .i64 0, .int .i64 0, .bool false, .bool false] 23))
    clear KF_108
    have KG_116 := Lib.hid (KG_109.out.alloc (.cells #[.int .i64 0, .int .i64 0, .int .i64 0, .int .i64 0, .int .i64 0, .bool false, .bool false] 23))
    clear KG_109
    have KI_117 := Lib.hid (KI_110.out.alloc (.cells #[.int .i64 0, .int .i64 0, .int .i64 0, .int .i64 0, .int .i64 0, .bool false, .bool false] 23))
    clear KI_110
    have HB118 : Hid (Below w.heap.size w (u6.alloc (.cells #[.int .i64 0, .int .i64 0, .int .i64 0, .int .i64 0, .int .i64 0, .bool false, .bool false] 23))) := HB111.out.alloc HB111.out.size _
    clear HB111
    have KA_119 := Lib.hid (KA_112.out.alloc (.cells #[.int .i64 0, .int .i64 0, .int .i64 0] 25))
    clear KA_112
    have KC_120 := Lib.hid (KC_113.out.alloc (.cells #[.int .i64 0, .int .i64 0, .int .i64 0] 25))
    clear KC_113
    have KE_121 := Lib.hid (KE_114.out.alloc (.cells #[.int .i64 0, .int .i64 0, .int .i64 0] 25))
    clear KE_114
    have KF_122 := Lib.hid (KF_115.out.alloc (.cells #[.int .i64 0, .int .i64 0, .int .i64 0] 25))
    clear KF_115
    have KG_123 := Lib.hid (KG_116.out.alloc (.cells #[.int .i64 0, .int .i64 0, .int .i64 0] 25))
    clear KG_116
    have KI_124 := Lib.hid (KI_117.out.alloc (.cells #[.int .i64 0, .int .i64 0, .int .i64 0] 25))
    clear KI_117
    have HB125 : Hid (Below w.heap.size w ((u6.alloc (.cells #[.int .i64 0, .int .i64 0, .int .i64 0, .int .i64 0, .int .i64 0, .bool false, .bool false] 23)).alloc (.cells #[.int .i64 0, .int .i64 0, .int .i64 0] 25))) := HB118.out.alloc HB118.out.size _
    clear HB118
    go_wp2_with fail
    refine (public_any 35 _).mono ?_
    rintro e _ ⟨rfl, rfl⟩
    rw [show pw 7 35 = 101027544 from (by decide +kernel)]
    have xA0 : ((u6.alloc (.cells #[.int .i64 0, .int .i64 0, .int .i64 0, .int .i64 0, .int .i64 0, .bool false, .bool false] 23)).alloc (.cells #[.int .i64 0, .int .i64 0, .int .i64 0] 25)).cell? ⟨u1.heap.size + 1, 0, none⟩ = some (.int .i64 1) := KA_119.out.c 0 rfl
    have xA1 : ((u6.alloc (.cells #[.int .i64 0, .int .i64 0, .int .i64 0, .int .i64 0, .int .i64 0, .bool false, .bool false] 23)).alloc (.cells #[.int .i64 0, .int .i64 0, .int .i64 0] 25)).cell? ⟨u1.heap.size + 1, 1, none⟩ = some (.int .i64 16807) := KA_119.out.c 1 rfl
    have xA2 : ((u6.alloc (.cells #[.int .i64 0, .int .i64 0, .int .i64 0, .int .i64 0, .int .i64 0, .bool false, .bool false] 23)).alloc (.cells #[.int .i64 0, .int .i64 0, .int .i64 0] 25)).cell? ⟨u1.heap.size + 1, 2, none⟩ = some (.int .i64 0) := KA_119.out.c 2 rfl
    have zA : u1.heap.size + 1 < ((u6.alloc (.cells #[.int .i64 0, .int .i64 0, .int .i64 0, .int .i64 0, .int .i64 0, .bool false, .bool false] 23)).alloc (.cells #[.int .i64 0, .int .i64 0, .int .i64 0] 25)).heap.size := KA_119.out.2.2
    have z2A : u1.heap.size + 1 < ((u6.alloc (.cells #[.int .i64 0, .int .i64 0, .int .i64 0, .int .i64 0, .int .i64 0, .bool false, .bool false] 23)).alloc (.cells #[.int .i64 0, .int .i64 0, .int .i64 0] 25)).heap.size + 1 := by omega
    have xC0 : ((u6.alloc (.cells #[.int .i64 0, .int .i64 0, .int .i64 0, .int .i64 0, .int .i64 0, .bool false, .bool false] 23)).alloc (.cells #[.int .i64 0, .int .i64 0, .int .i64 0] 25)).cell? ⟨n2, 0, none⟩ = some (.int .i64 2) := KC_120.out.c 0 rfl
    have xC1 : ((u6.alloc (.cells #[.int .i64 0, .int .i64 0, .int .i64 0, .int .i64 0, .int .i64 0, .bool false, .bool false] 23)).alloc (.cells #[.int .i64 0, .int .i64 0, .int .i64 0] 25)).cell? ⟨n2, 1, none⟩ = some (.int .i64 823543) := KC_120.out.c 1 rfl
    have xC2 : ((u6.alloc (.cells #[.int .i64 0, .int .i64 0, .int .i64 0, .int .i64 0, .int .i64 0, .bool false, .bool false] 23)).alloc (.cells #[.int .i64 0, .int .i64 0, .int .i64 0] 25)).cell? ⟨n2, 2, none⟩ = some (.int .i64 556964747) := KC_120.out.c 2 rfl
    have zC : n2 < ((u6.alloc (.cells #[.int .i64 0, .int .i64 0, .int .i64 0, .int .i64 0, .int .i64 0, .bool false, .bool false] 23)).alloc (.cells #[.int .i64 0, .int .i64 0, .int .i64 0] 25)).heap.size := KC_120.out.2.2
    have z2C : n2 < ((u6.alloc (.cells #[.int .i64 0, .int .i64 0, .int .i64 0, .int .i64 0, .int .i64 0, .bool false, .bool false] 23)).alloc (.cells #[.int .i64 0, .int .i64 0, .int .i64 0] 25)).heap.size + 1 := by omega
    have xE0 : ((u6.alloc (.cells #[.int .i64 0, .int .i64 0, .int .i64 0, .int .i64 0, .int .i64 0, .bool false, .bool false] 23)).alloc (.cells #[.int .i64 0, .int .i64 0, .int .i64 0] 25)).cell? ⟨u2.heap.size, 0, none⟩ = some (.int .i64 1234) := KE_121.out.c 0 rfl
    have xE1 : ((u6.alloc (.cells #[.int .i64 0, .int .i64 0, .int .i64 0, .int .i64 0, .int .i64 0, .bool false, .bool false] 23)).alloc (.cells #[.int .i64 0, .int .i64 0, .int .i64 0] 25)).cell? ⟨u2.heap.size, 1, none⟩ = some (.int .i64 5) := KE_121.out.c 1 rfl
    have xE2 : ((u6.alloc (.cells #[.int .i64 0, .int .i64 0, .int .i64 0, .int .i64 0, .int .i64 0, .bool false, .bool false] 23)).alloc (.cells #[.int .i64 0, .int .i64 0, .int .i64 0] 25)).cell? ⟨u2.heap.size, 2, none⟩ = some (.int .i64 16807) := KE_121.out.c 2 rfl
    have xE3 : ((u6.alloc (.cells #[.int .i64 0, .int .i64 0, .int .i64 0, .int .i64 0, .int .i64 0, .bool false, .bool false] 23)).alloc (.cells #[.int .i64 0, .int .i64 0, .int .i64 0] 25)).cell? ⟨u2.heap.size, 3, none⟩ = some (.int .i64 823543) := KE_121.out.c 3 rfl
    have xE4 : ((u6.alloc (.cells #[.int .i64 0, .int .i64 0, .int .i64 0, .int .i64 0, .int .i64 0, .bool false, .bool false] 23)).alloc (.cells #[.int .i64 0, .int .i64 0, .int .i64 0] 25)).cell? ⟨u2.heap.size, 4, none⟩ = some (.int .i64 101027544) := KE_121.out.c 4 rfl
    have xE5 : ((u6.alloc (.cells #[.int .i64 0, .int .i64 0, .int .i64 0, .int .i64 0, .int .i64 0, .bool false, .bool false] 23)).alloc (.cells #[.int .i64 0, .int .i64 0, .int .i64 0] 25)).cell? ⟨u2.heap.size, 5, none⟩ = some (.bool false) := KE_121.out.c 5 rfl
    have xE6 : ((u6.alloc (.cells #[.int .i64 0, .int .i64 0, .int .i64 0, .int .i64 0, .int .i64 0, .bool false, .bool false] 23)).alloc (.cells #[.int .i64 0, .int .i64 0, .int .i64 0] 25)).cell? ⟨u2.heap.size, 6, none⟩ = some (.bool true) := KE_121.out.c 6 rfl
    have zE : u2.heap.size < ((u6.alloc (.cells #[.int .i64 0, .int .i64 0, .int .i64 0, .int .i64 0, .int .i64 0, .bool false, .bool false] 23)).alloc (.cells #[.int .i64 0, .int .i64 0, .int .i64 0] 25)).heap.size := KE_121.out.2.2
    have z2E : u2.heap.size < ((u6.alloc (.cells #[.int .i64 0, .int .i64 0, .int .i64 0, .int .i64 0, .int .i64 0, .bool false, .bool false] 23)).alloc (.cells #[.int .i64 0, .int .i64 0, .int .i64 0] 25)).heap.size + 1 := by omega
    have xF0 : ((u6.alloc (.cells #[.int .i64 0, .int .i64 0, .int .i64 0, .int .i64 0, .int .i64 0, .bool false, .bool false] 23)).alloc (.cells #[.int .i64 0, .int .i64 0, .int .i64 0] 25)).cell? ⟨u2.heap.size + 1, 0, none⟩ = some (.int .i64 3) := KF_122.out.c 0 rfl
    have xF1 : ((u6.alloc (.cells #[.int .i64 0, .int .i64 0, .int .i64 0, .int .i64 0, .int .i64 0, .bool false, .bool false] 23)).alloc (.cells #[.int .i64 0, .int .i64 0, .int .i64 0] 25)).cell? ⟨u2.heap.size + 1, 1, none⟩ = some (.int .i64 0) := KF_122.out.c 1 rfl
    have xF2 : ((u6.alloc (.cells #[.int .i64 0, .int .i64 0, .int .i64 0, .int .i64 0, .int .i64 0, .bool false, .bool false] 23)).alloc (.cells #[.int .i64 0, .int .i64 0, .int .i64 0] 25)).cell? ⟨u2.heap.size + 1, 2, none⟩ = some (.int .i64 1606526508) := KF_122.out.c 2 rfl
    have zF : u2.heap.size + 1 < ((u6.alloc (.cells #[.int .i64 0, .int .i64 0, .int .i64 0, .int .i64 0, .int .i64 0, .bool false, .bool false] 23)).alloc (.cells #[.int .i64 0, .int .i64 0, .int .i64 0] 25)).heap.size := KF_122.out.2.2
    have z2F : u2.heap.size + 1 < ((u6.alloc (.cells #[.int .i64 0, .int .i64 0, .int .i64 0, .int .i64 0, .int .i64 0, .bool false, .bool false] 23)).alloc (.cells #[.int .i64 0, .int .i64 0, .int .i64 0] 25)).heap.size + 1 := by omega
    have xG0 : ((u6.alloc (.cells #[.int .i64 0, .int .i64 0, .int .i64 0, .int .i64 0, .int .i64 0, .bool false, .bool false] 23)).alloc (.cells #[.int .i64 0, .int .i64 0, .int .i64 0] 25)).cell? ⟨u3.heap.size, 0, none⟩ = some (.int .i64 1234) := KG_123.out.c 0 rfl
    have xG1 : ((u6.alloc (.cells #[.int .i64 0, .int .i64 0, .int .i64 0, .int .i64 0, .int .i64 0, .bool false, .bool false] 23)).alloc (.cells #[.int .i64 0, .int .i64 0, .int .i64 0] 25)).cell? ⟨u3.heap.size, 1, none⟩ = some (.int .i64 7) := KG_123.out.c 1 rfl
    have xG2 : ((u6.alloc (.cells #[.int .i64 0, .int .i64 0, .int .i64 0, .int .i64 0, .int .i64 0, .bool false, .bool false] 23)).alloc (.cells #[.int .i64 0, .int .i64 0, .int .i64 0] 25)).cell? ⟨u3.heap.size, 2, none⟩ = some (.int .i64 823543) := KG_123.out.c 2 rfl
    have xG3 : ((u6.alloc (.cells #[.int .i64 0, .int .i64 0, .int .i64 0, .int .i64 0, .int .i64 0, .bool false, .bool false] 23)).alloc (.cells #[.int .i64 0, .int .i64 0, .int .i64 0] 25)).cell? ⟨u3.heap.size, 3, none⟩ = some (.int .i64 16807) := KG_123.out.c 3 rfl
    have xG4 : ((u6.alloc (.cells #[.int .i64 0, .int .i64 0, .int .i64 0, .int .i64 0, .int .i64 0, .bool false, .bool false] 23)).alloc (.cells #[.int .i64 0, .int .i64 0, .int .i64 0] 25)).cell? ⟨u3.heap.size, 4, none⟩ = some (.int .i64 101027544) := KG_123.out.c 4 rfl
    have xG5 : ((u6.alloc (.cells #[.int .i64 0, .int .i64 0, .int .i64 0, .int .i64 0, .int .i64 0, .bool false, .bool false] 23)).alloc (.cells #[.int .i64 0, .int .i64 0, .int .i64 0] 25)).cell? ⟨u3.heap.size, 5, none⟩ = some (.bool true) := KG_123.out.c 5 rfl
    have xG6 : ((u6.alloc (.cells #[.int .i64 0, .int .i64 0, .int .i64 0, .int .i64 0, .int .i64 0, .bool false, .bool false] 23)).alloc (.cells #[.int .i64 0, .int .i64 0, .int .i64 0] 25)).cell? ⟨u3.heap.size, 6, none⟩ = some (.bool true) := KG_123.out.c 6 rfl
    have zG : u3.heap.size < ((u6.alloc (.cells #[.int .i64 0, .int .i64 0, .int .i64 0, .int .i64 0, .int .i64 0, .bool false, .bool false] 23)).alloc (.cells #[.int .i64 0, .int .i64 0, .int .i64 0] 25)).heap.size := KG_123.out.2.2
    have z2G : u3.heap.size < ((u6.alloc (.cells #[.int .i64 0, .int .i64 0, .int .i64 0, .int .i64 0, .int .i64 0, .bool false, .bool false] 23)).alloc (.cells #[.int .i64 0, .int .i64 0, .int .i64 0] 25)).heap.size + 1 := by omega
    have xI0 : ((u6.alloc (.cells #[.int .i64 0, .int .i64 0, .int .i64 0, .int .i64 0, .int .i64 0, .bool false, .bool false] 23)).alloc (.cells #[.int .i64 0, .int .i64 0, .int .i64 0] 25)).cell? ⟨u3.heap.size + 1, 0, none⟩ = some (.int .i64 0) := KI_124.out.c 0 rfl
    have xI1 : ((u6.alloc (.cells #[.int .i64 0, .int .i64 0, .int .i64 0, .int .i64 0, .int .i64 0, .bool false, .bool false] 23)).alloc (.cells #[.int .i64 0, .int .i64 0, .int .i64 0] 25)).cell? ⟨u3.heap.size + 1, 1, none⟩ = some (.int .i64 0) := KI_124.out.c 1 rfl
    have xI2 : ((u6.alloc (.cells #[.int .i64 0, .int .i64 0, .int .i64 0, .int .i64 0, .int .i64 0, .bool false, .bool false] 23)).alloc (.cells #[.int .i64 0, .int .i64 0, .int .i64 0] 25)).cell? ⟨u3.heap.size + 1, 2, none⟩ = some (.int .i64 0) := KI_124.out.c 2 rfl
    have zI : u3.heap.size + 1 < ((u6.alloc (.cells #[.int .i64 0, .int .i64 0, .int .i64 0, .int .i64 0, .int .i64 0, .bool false, .bool false] 23)).alloc (.cells #[.int .i64 0, .int .i64 0, .int .i64 0] 25)).heap.size := KI_124.out.2.2
    have z2I : u3.heap.size + 1 < ((u6.alloc (.cells #[.int .i64 0, .int .i64 0, .int .i64 0, .int .i64 0, .int .i64 0, .bool false, .bool false] 23)).alloc (.cells #[.int .i64 0, .int .i64 0, .int .i64 0] 25)).heap.size + 1 := by omega
    go_wp2
    go_ret
    exact ⟨rfl, HB125.out⟩
end Go.Proofs.Ytoggmladiakblaa
