/- The walks of JoinDirection and JoinCodes. -/
import Derived.Test.YtoggmladiakblaaJq
namespace Go.Proofs.Ytoggmladiakblaa
open Go.RowKit

set_option maxRecDepth 100000 in
set_option maxHeartbeats 4000000 in
theorem dir_no (code a b p q : Int) (w : World) (hp : pw 7 a = p) (hq : pw 7 b = q) (hw1 : RW code b q 0 0 true false 1 p 0 1 zj zh) (hw2 : RW code a p 0 0 false false 0 0 0 28 zj zh) : Calls Try.prog 8 #[.int .i64 code, .int .i64 a, .int .i64 b] w fun e w' => e = .returned (.bool true) ∧ Below w.heap.size w w' := by
  replace hp := Lib.hid hp
  replace hq := Lib.hid hq
  replace hw1 := Lib.hid hw1
  replace hw2 := Lib.hid hw2
  have HB0 := Lib.hid (Below.refl w.heap.size w)
  go_enter Try.func8, Try.ntmps8
  go_wp2_with fail
  refine (head_any _).mono ?_
  rintro e u1 ⟨rfl, b1⟩
  have HB1 := Lib.hid (keep2 b1 HB0.out)
  clear HB0 b1
  go_wp2_with fail
  refine (device_is code a p _ hp.out).mono ?_
  rintro e u2 ⟨rfl, b2⟩
  have HB2 := Lib.hid (keep2 b2 HB1.out)
  clear HB1 b2
  have KD_3 := Lib.hid (Cs.new u2 (u2.heap.size) #[.int .i64 code, .int .i64 a, .int .i64 p, .int .i64 0, .int .i64 0, .bool false, .bool false] 23 (by simp))
  have HB4 : Hid (Below w.heap.size w (u2.alloc (.cells #[.int .i64 code, .int .i64 a, .int .i64 p, .int .i64 0, .int .i64 0, .bool false, .bool false] 23))) := HB2.out.alloc HB2.out.size _
  clear HB2
  have KD_5 := Lib.hid (KD_3.out.alloc (.cells #[.int .i64 1, .int .i64 p, .int .i64 0] 25))
  clear KD_3
  have KA_6 := Lib.hid (Cs.new (u2.alloc (.cells #[.int .i64 code, .int .i64 a, .int .i64 p, .int .i64 0, .int .i64 0, .bool false, .bool false] 23)) (u2.heap.size + 1) #[.int .i64 1, .int .i64 p, .int .i64 0] 25 (by simp))
  have HB7 : Hid (Below w.heap.size w ((u2.alloc (.cells #[.int .i64 code, .int .i64 a, .int .i64 p, .int .i64 0, .int .i64 0, .bool false, .bool false] 23)).alloc (.cells #[.int .i64 1, .int .i64 p, .int .i64 0] 25))) := HB4.out.alloc HB4.out.size _
  clear HB4
  go_upto_region 3 with fail
  obtain ⟨wq, hwq⟩ : ∃ wq, ((u2.alloc (.cells #[.int .i64 code, .int .i64 a, .int .i64 p, .int .i64 0, .int .i64 0, .bool false, .bool false] 23)).alloc (.cells #[.int .i64 1, .int .i64 p, .int .i64 0] 25)) = wq := ⟨_, rfl⟩
  rw [hwq] at KD_5
  rw [hwq] at KA_6
  rw [hwq] at HB7 ⊢
  clear hwq
  go_cut [10, 11, 12] from 29 to 37 (fun pc qc rc wc => ∃ n1 n2 : Nat, pc = .pointer (some ⟨n1, 0, none⟩) ∧ qc = .pointer (some ⟨n2, 0, none⟩) ∧ rc = .int .i64 1 ∧ Hid (Cs wc n1 #[.int .i64 0, .int .i64 0, .int .i64 0, .int .i64 0, .int .i64 0, .bool false, .bool false]) ∧ Hid (Cs wc n2 #[.int .i64 0, .int .i64 0, .int .i64 0]) ∧ Below wq.heap.size wq wc)
  case first =>
    refine region_inv (fun bf ac wv => ∃ (n1 n2 : Nat) (v30 v31 v32 v33 v34 v29 v35 v36 v37 v10 v11 v12 : Value), ac = { tmps := #[.int .i64 code, .int .i64 a, .int .i64 b, undef, undef, undef, .bool false, .bool true, .pointer (some ⟨u2.heap.size, 0, none⟩), .pointer (some ⟨u2.heap.size + 1, 0, none⟩), v10, v11, v12, undef, undef, undef, undef, undef, undef, undef, undef, undef, .bool true, .tuple #[.agg #[.int .i64 code, .int .i64 a, .int .i64 p, .int .i64 0, .int .i64 0, .bool false, .bool false], .agg #[.int .i64 1, .int .i64 p, .int .i64 0]], .int .i64 code, .int .i64 a, .tuple #[.agg #[.int .i64 code, .int .i64 a, .int .i64 p, .int .i64 0, .int .i64 0, .bool false, .bool false], .agg #[.int .i64 1, .int .i64 p, .int .i64 0]], .agg #[.int .i64 code, .int .i64 a, .int .i64 p, .int .i64 0, .int .i64 0, .bool false, .bool false], .agg #[.int .i64 1, .int .i64 p, .int .i64 0], v29, v30, v31, v32, v33, v34, v35, v36, v37, undef, undef, undef, undef, undef, undef, undef, undef, undef, undef, undef, undef, undef, undef, undef, undef, undef, undef, undef, undef, undef, undef, undef, undef, undef, undef, undef, undef, undef, undef, undef, undef, undef, undef, undef, undef, undef, undef, undef, undef, undef, undef, undef], defers := [] } ∧ Mem wq wv n1 n2 v10 v11 (bf 9) (bf 11) (bf 10) (bf 12) #[.int .i64 0, .int .i64 0, .int .i64 0, .int .i64 0, .int .i64 0, .bool false, .bool false] #[.int .i64 0, .int .i64 0, .int .i64 0] ∧ (bf 0 = true → v30 = .int .i64 code) ∧ (bf 1 = true → v31 = .int .i64 b) ∧ (bf 2 = true → v32 = .agg #[.int .i64 code, .int .i64 b, .int .i64 q, .int .i64 0, .int .i64 0, .bool true, .bool false]) ∧ (bf 3 = true → v33 = .agg #[.int .i64 1, .int .i64 p, .int .i64 0]) ∧ (bf 4 = true → v34 = .tuple #[.agg #[.int .i64 0, .int .i64 0, .int .i64 0, .int .i64 0, .int .i64 0, .bool false, .bool false], .agg #[.int .i64 0, .int .i64 0, .int .i64 0], .int .i64 1]) ∧ (bf 5 = true → v29 = .tuple #[.agg #[.int .i64 0, .int .i64 0, .int .i64 0, .int .i64 0, .int .i64 0, .bool false, .bool false], .agg #[.int .i64 0, .int .i64 0, .int .i64 0], .int .i64 1]) ∧ (bf 6 = true → v35 = .agg #[.int .i64 0, .int .i64 0, .int .i64 0, .int .i64 0, .int .i64 0, .bool false, .bool false]) ∧ (bf 7 = true → v36 = .agg #[.int .i64 0, .int .i64 0, .int .i64 0]) ∧ (bf 8 = true → v37 = .int .i64 1) ∧ (bf 13 = true → v12 = .int .i64 1)) (by kernel_rfl) (by decide +kernel) ?_ ?_ ?_
    · exact ⟨_, _, _, _, _, _, _, _, _, _, _, _, _, _, rfl, Mem.start _ _ _ _ _, (by simp), (by simp), (by simp), (by simp), (by simp), (by simp), (by simp), (by simp), (by simp), (by simp)⟩
    · refine ⟨?_, ?_, ?_, ?_, ?_, ?_, ?_, ?_, ?_, ?_, ?_, ?_, ?_, ?_, trivial⟩
      · intro bf ac wv hfb haf hJ K' hK
        obtain ⟨n1, n2, v30, v31, v32, v33, v34, v29, v35, v36, v37, v10, v11, v12, rfl, hM, g30, g31, g32, g33, g34, g29, g35, g36, g37, g12⟩ := hJ
        replace hK := Lib.hid hK
        replace hM := Lib.hid hM
        replace g30 := Lib.hid g30
        replace g31 := Lib.hid g31
        replace g32 := Lib.hid g32
        replace g33 := Lib.hid g33
        replace g34 := Lib.hid g34
        replace g29 := Lib.hid g29
        replace g35 := Lib.hid g35
        replace g36 := Lib.hid g36
        replace g37 := Lib.hid g37
        replace g12 := Lib.hid g12
        go_simp
        exact hK.out _ _ ⟨n1, n2, .int .i64 code, v31, v32, v33, v34, v29, v35, v36, v37, v10, v11, v12, rfl, hM.out, fun _ => rfl, g31.out, g32.out, g33.out, g34.out, g29.out, g35.out, g36.out, g37.out, g12.out⟩
      · intro bf ac wv hfb haf hJ K' hK
        obtain ⟨n1, n2, v30, v31, v32, v33, v34, v29, v35, v36, v37, v10, v11, v12, rfl, hM, g30, g31, g32, g33, g34, g29, g35, g36, g37, g12⟩ := hJ
        replace hK := Lib.hid hK
        replace hM := Lib.hid hM
        replace g30 := Lib.hid g30
        replace g31 := Lib.hid g31
        replace g32 := Lib.hid g32
        replace g33 := Lib.hid g33
        replace g34 := Lib.hid g34
        replace g29 := Lib.hid g29
        replace g35 := Lib.hid g35
        replace g36 := Lib.hid g36
        replace g37 := Lib.hid g37
        replace g12 := Lib.hid g12
        go_simp
        exact hK.out _ _ ⟨n1, n2, v30, .int .i64 b, v32, v33, v34, v29, v35, v36, v37, v10, v11, v12, rfl, hM.out, g30.out, fun _ => rfl, g32.out, g33.out, g34.out, g29.out, g35.out, g36.out, g37.out, g12.out⟩
      · intro bf ac wv hfb haf hJ K' hK
        obtain ⟨n1, n2, v30, v31, v32, v33, v34, v29, v35, v36, v37, v10, v11, v12, rfl, hM, g30, g31, g32, g33, g34, g29, g35, g36, g37, g12⟩ := hJ
        replace hK := Lib.hid hK
        replace hM := Lib.hid hM
        replace g30 := Lib.hid g30
        replace g31 := Lib.hid g31
        replace g32 := Lib.hid g32
        replace g33 := Lib.hid g33
        replace g34 := Lib.hid g34
        replace g29 := Lib.hid g29
        replace g35 := Lib.hid g35
        replace g36 := Lib.hid g36
        replace g37 := Lib.hid g37
        replace g12 := Lib.hid g12
        simp [Region.binds] at haf
        have hb0 : bf 0 = true := by simp [haf]
        have hb1 : bf 1 = true := by simp [haf]
        obtain rfl := g30.out hb0
        obtain rfl := g31.out hb1
        go_simp
        go_at_call 14
        refine (hub_is code b q _ hq.out).mono ?_
        rintro e w4 ⟨rfl, b4⟩
        exact hK.out _ _ ⟨n1, n2, .int .i64 code, .int .i64 b, .agg #[.int .i64 code, .int .i64 b, .int .i64 q, .int .i64 0, .int .i64 0, .bool true, .bool false], v33, v34, v29, v35, v36, v37, v10, v11, v12, rfl, hM.out.step b4, g30.out, g31.out, fun _ => rfl, g33.out, g34.out, g29.out, g35.out, g36.out, g37.out, g12.out⟩
      · intro bf ac wv hfb haf hJ K' hK
        obtain ⟨n1, n2, v30, v31, v32, v33, v34, v29, v35, v36, v37, v10, v11, v12, rfl, hM, g30, g31, g32, g33, g34, g29, g35, g36, g37, g12⟩ := hJ
        replace hK := Lib.hid hK
        replace hM := Lib.hid hM
        replace g30 := Lib.hid g30
        replace g31 := Lib.hid g31
        replace g32 := Lib.hid g32
        replace g33 := Lib.hid g33
        replace g34 := Lib.hid g34
        replace g29 := Lib.hid g29
        replace g35 := Lib.hid g35
        replace g36 := Lib.hid g36
        replace g37 := Lib.hid g37
        replace g12 := Lib.hid g12
        have hA := KA_6.out.step hM.out.below
        have xA0 := hA.c 0 rfl
        have xA1 := hA.c 1 rfl
        have xA2 := hA.c 2 rfl
        have zA := hA.2.2
        clear hA
        go_simp
        exact hK.out _ _ ⟨n1, n2, v30, v31, v32, .agg #[.int .i64 1, .int .i64 p, .int .i64 0], v34, v29, v35, v36, v37, v10, v11, v12, rfl, hM.out, g30.out, g31.out, g32.out, fun _ => rfl, g34.out, g29.out, g35.out, g36.out, g37.out, g12.out⟩
      · intro bf ac wv hfb haf hJ K' hK
        obtain ⟨n1, n2, v30, v31, v32, v33, v34, v29, v35, v36, v37, v10, v11, v12, rfl, hM, g30, g31, g32, g33, g34, g29, g35, g36, g37, g12⟩ := hJ
        replace hK := Lib.hid hK
        replace hM := Lib.hid hM
        replace g30 := Lib.hid g30
        replace g31 := Lib.hid g31
        replace g32 := Lib.hid g32
        replace g33 := Lib.hid g33
        replace g34 := Lib.hid g34
        replace g29 := Lib.hid g29
        replace g35 := Lib.hid g35
        replace g36 := Lib.hid g36
        replace g37 := Lib.hid g37
        replace g12 := Lib.hid g12
        simp [Region.binds] at haf
        have hb2 : bf 2 = true := by simp [haf]
        have hb3 : bf 3 = true := by simp [haf]
        obtain rfl := g32.out hb2
        obtain rfl := g33.out hb3
        go_simp
        go_at_call 12
        refine (recv_is code b q 0 0 true false 1 p 0 1 _ _ _ hw1.out).mono ?_
        rintro e w5 ⟨rfl, b5⟩
        exact hK.out _ _ ⟨n1, n2, v30, v31, .agg #[.int .i64 code, .int .i64 b, .int .i64 q, .int .i64 0, .int .i64 0, .bool true, .bool false], .agg #[.int .i64 1, .int .i64 p, .int .i64 0], .tuple #[.agg #[.int .i64 0, .int .i64 0, .int .i64 0, .int .i64 0, .int .i64 0, .bool false, .bool false], .agg #[.int .i64 0, .int .i64 0, .int .i64 0], .int .i64 1], v29, v35, v36, v37, v10, v11, v12, rfl, hM.out.step b5, g30.out, g31.out, g32.out, g33.out, fun _ => rfl, g29.out, g35.out, g36.out, g37.out, g12.out⟩
      · intro bf ac wv hfb haf hJ K' hK
        obtain ⟨n1, n2, v30, v31, v32, v33, v34, v29, v35, v36, v37, v10, v11, v12, rfl, hM, g30, g31, g32, g33, g34, g29, g35, g36, g37, g12⟩ := hJ
        replace hK := Lib.hid hK
        replace hM := Lib.hid hM
        replace g30 := Lib.hid g30
        replace g31 := Lib.hid g31
        replace g32 := Lib.hid g32
        replace g33 := Lib.hid g33
        replace g34 := Lib.hid g34
        replace g29 := Lib.hid g29
        replace g35 := Lib.hid g35
        replace g36 := Lib.hid g36
        replace g37 := Lib.hid g37
        replace g12 := Lib.hid g12
        simp [Region.binds] at haf
        have hb4 : bf 4 = true := by simp [haf]
        obtain rfl := g34.out hb4
        go_simp
        exact hK.out _ _ ⟨n1, n2, v30, v31, v32, v33, .tuple #[.agg #[.int .i64 0, .int .i64 0, .int .i64 0, .int .i64 0, .int .i64 0, .bool false, .bool false], .agg #[.int .i64 0, .int .i64 0, .int .i64 0], .int .i64 1], .tuple #[.agg #[.int .i64 0, .int .i64 0, .int .i64 0, .int .i64 0, .int .i64 0, .bool false, .bool false], .agg #[.int .i64 0, .int .i64 0, .int .i64 0], .int .i64 1], v35, v36, v37, v10, v11, v12, rfl, hM.out, g30.out, g31.out, g32.out, g33.out, g34.out, fun _ => rfl, g35.out, g36.out, g37.out, g12.out⟩
      · intro bf ac wv hfb haf hJ K' hK
        obtain ⟨n1, n2, v30, v31, v32, v33, v34, v29, v35, v36, v37, v10, v11, v12, rfl, hM, g30, g31, g32, g33, g34, g29, g35, g36, g37, g12⟩ := hJ
        replace hK := Lib.hid hK
        replace hM := Lib.hid hM
        replace g30 := Lib.hid g30
        replace g31 := Lib.hid g31
        replace g32 := Lib.hid g32
        replace g33 := Lib.hid g33
        replace g34 := Lib.hid g34
        replace g29 := Lib.hid g29
        replace g35 := Lib.hid g35
        replace g36 := Lib.hid g36
        replace g37 := Lib.hid g37
        replace g12 := Lib.hid g12
        simp [Region.binds] at haf
        have hb5 : bf 5 = true := by simp [haf]
        obtain rfl := g29.out hb5
        go_simp
        exact hK.out _ _ ⟨n1, n2, v30, v31, v32, v33, v34, .tuple #[.agg #[.int .i64 0, .int .i64 0, .int .i64 0, .int .i64 0, .int .i64 0, .bool false, .bool false], .agg #[.int .i64 0, .int .i64 0, .int .i64 0], .int .i64 1], .agg #[.int .i64 0, .int .i64 0, .int .i64 0, .int .i64 0, .int .i64 0, .bool false, .bool false], v36, v37, v10, v11, v12, rfl, hM.out, g30.out, g31.out, g32.out, g33.out, g34.out, g29.out, fun _ => rfl, g36.out, g37.out, g12.out⟩
      · intro bf ac wv hfb haf hJ K' hK
        obtain ⟨n1, n2, v30, v31, v32, v33, v34, v29, v35, v36, v37, v10, v11, v12, rfl, hM, g30, g31, g32, g33, g34, g29, g35, g36, g37, g12⟩ := hJ
        replace hK := Lib.hid hK
        replace hM := Lib.hid hM
        replace g30 := Lib.hid g30
        replace g31 := Lib.hid g31
        replace g32 := Lib.hid g32
        replace g33 := Lib.hid g33
        replace g34 := Lib.hid g34
        replace g29 := Lib.hid g29
        replace g35 := Lib.hid g35
        replace g36 := Lib.hid g36
        replace g37 := Lib.hid g37
        replace g12 := Lib.hid g12
        simp [Region.binds] at haf
        have hb5 : bf 5 = true := by simp [haf]
        obtain rfl := g29.out hb5
        go_simp
        exact hK.out _ _ ⟨n1, n2, v30, v31, v32, v33, v34, .tuple #[.agg #[.int .i64 0, .int .i64 0, .int .i64 0, .int .i64 0, .int .i64 0, .bool false, .bool false], .agg #[.int .i64 0, .int .i64 0, .int .i64 0], .int .i64 1], v35, .agg #[.int .i64 0, .int .i64 0, .int .i64 0], v37, v10, v11, v12, rfl, hM.out, g30.out, g31.out, g32.out, g33.out, g34.out, g29.out, g35.out, fun _ => rfl, g37.out, g12.out⟩
      · intro bf ac wv hfb haf hJ K' hK
        obtain ⟨n1, n2, v30, v31, v32, v33, v34, v29, v35, v36, v37, v10, v11, v12, rfl, hM, g30, g31, g32, g33, g34, g29, g35, g36, g37, g12⟩ := hJ
        replace hK := Lib.hid hK
        replace hM := Lib.hid hM
        replace g30 := Lib.hid g30
        replace g31 := Lib.hid g31
        replace g32 := Lib.hid g32
        replace g33 := Lib.hid g33
        replace g34 := Lib.hid g34
        replace g29 := Lib.hid g29
        replace g35 := Lib.hid g35
        replace g36 := Lib.hid g36
        replace g37 := Lib.hid g37
        replace g12 := Lib.hid g12
        simp [Region.binds] at haf
        have hb5 : bf 5 = true := by simp [haf]
        obtain rfl := g29.out hb5
        go_simp
        exact hK.out _ _ ⟨n1, n2, v30, v31, v32, v33, v34, .tuple #[.agg #[.int .i64 0, .int .i64 0, .int .i64 0, .int .i64 0, .int .i64 0, .bool false, .bool false], .agg #[.int .i64 0, .int .i64 0, .int .i64 0], .int .i64 1], v35, v36, .int .i64 1, v10, v11, v12, rfl, hM.out, g30.out, g31.out, g32.out, g33.out, g34.out, g29.out, g35.out, g36.out, fun _ => rfl, g12.out⟩
      · intro bf ac wv hfb haf hJ K' hK
        obtain ⟨n1, n2, v30, v31, v32, v33, v34, v29, v35, v36, v37, v10, v11, v12, rfl, hM, g30, g31, g32, g33, g34, g29, g35, g36, g37, g12⟩ := hJ
        replace hK := Lib.hid hK
        replace hM := Lib.hid hM
        replace g30 := Lib.hid g30
        replace g31 := Lib.hid g31
        replace g32 := Lib.hid g32
        replace g33 := Lib.hid g33
        replace g34 := Lib.hid g34
        replace g29 := Lib.hid g29
        replace g35 := Lib.hid g35
        replace g36 := Lib.hid g36
        replace g37 := Lib.hid g37
        replace g12 := Lib.hid g12
        obtain ⟨m2, hM2⟩ := hM.out.alloc1 hfb
        have hM2 := Lib.hid hM2
        clear hM
        go_simp
        exact hK.out _ _ ⟨_, m2, v30, v31, v32, v33, v34, v29, v35, v36, v37, _, v11, v12, rfl, hM2.out, g30.out, g31.out, g32.out, g33.out, g34.out, g29.out, g35.out, g36.out, g37.out, g12.out⟩
      · intro bf ac wv hfb haf hJ K' hK
        obtain ⟨n1, n2, v30, v31, v32, v33, v34, v29, v35, v36, v37, v10, v11, v12, rfl, hM, g30, g31, g32, g33, g34, g29, g35, g36, g37, g12⟩ := hJ
        replace hK := Lib.hid hK
        replace hM := Lib.hid hM
        replace g30 := Lib.hid g30
        replace g31 := Lib.hid g31
        replace g32 := Lib.hid g32
        replace g33 := Lib.hid g33
        replace g34 := Lib.hid g34
        replace g29 := Lib.hid g29
        replace g35 := Lib.hid g35
        replace g36 := Lib.hid g36
        replace g37 := Lib.hid g37
        replace g12 := Lib.hid g12
        obtain ⟨m1, hM2⟩ := hM.out.alloc2 hfb
        have hM2 := Lib.hid hM2
        clear hM
        go_simp
        exact hK.out _ _ ⟨m1, _, v30, v31, v32, v33, v34, v29, v35, v36, v37, v10, _, v12, rfl, hM2.out, g30.out, g31.out, g32.out, g33.out, g34.out, g29.out, g35.out, g36.out, g37.out, g12.out⟩
      · intro bf ac wv hfb haf hJ K' hK
        obtain ⟨n1, n2, v30, v31, v32, v33, v34, v29, v35, v36, v37, v10, v11, v12, rfl, hM, g30, g31, g32, g33, g34, g29, g35, g36, g37, g12⟩ := hJ
        replace hK := Lib.hid hK
        replace hM := Lib.hid hM
        replace g30 := Lib.hid g30
        replace g31 := Lib.hid g31
        replace g32 := Lib.hid g32
        replace g33 := Lib.hid g33
        replace g34 := Lib.hid g34
        replace g29 := Lib.hid g29
        replace g35 := Lib.hid g35
        replace g36 := Lib.hid g36
        replace g37 := Lib.hid g37
        replace g12 := Lib.hid g12
        simp [Region.binds] at haf
        have hb6 : bf 6 = true := by simp [haf]
        have hb9 : bf 9 = true := by simp [haf]
        obtain rfl := g35.out hb6
        obtain ⟨rfl, hZ⟩ := hM.out.zero1 hb9 hfb
        have hZ := Lib.hid hZ
        unfold ptr at hM hK ⊢
        have xZ0 := hZ.out.c 0 rfl
        have yZ0 := hZ.out.f 0 (by simp)
        have xZ1 := hZ.out.c 1 rfl
        have yZ1 := hZ.out.f 1 (by simp)
        have xZ2 := hZ.out.c 2 rfl
        have yZ2 := hZ.out.f 2 (by simp)
        have xZ3 := hZ.out.c 3 rfl
        have yZ3 := hZ.out.f 3 (by simp)
        have xZ4 := hZ.out.c 4 rfl
        have yZ4 := hZ.out.f 4 (by simp)
        have xZ5 := hZ.out.c 5 rfl
        have yZ5 := hZ.out.f 5 (by simp)
        have xZ6 := hZ.out.c 6 rfl
        have yZ6 := hZ.out.f 6 (by simp)
        have zZ := hZ.out.2.2
        go_simp
        have hM3 := hM.out; rw [hb9] at hM3
        have hM4 := hM3.store1 (Turned.all7 hZ.out)
        exact hK.out _ _ ⟨n1, n2, v30, v31, v32, v33, v34, v29, .agg #[.int .i64 0, .int .i64 0, .int .i64 0, .int .i64 0, .int .i64 0, .bool false, .bool false], v36, v37, .pointer (some ⟨n1, 0, none⟩), v11, v12, rfl, (by rw [show up bf 11 9 = true from hb9]; exact hM4), g30.out, g31.out, g32.out, g33.out, g34.out, g29.out, g35.out, g36.out, g37.out, g12.out⟩
      · intro bf ac wv hfb haf hJ K' hK
        obtain ⟨n1, n2, v30, v31, v32, v33, v34, v29, v35, v36, v37, v10, v11, v12, rfl, hM, g30, g31, g32, g33, g34, g29, g35, g36, g37, g12⟩ := hJ
        replace hK := Lib.hid hK
        replace hM := Lib.hid hM
        replace g30 := Lib.hid g30
        replace g31 := Lib.hid g31
        replace g32 := Lib.hid g32
        replace g33 := Lib.hid g33
        replace g34 := Lib.hid g34
        replace g29 := Lib.hid g29
        replace g35 := Lib.hid g35
        replace g36 := Lib.hid g36
        replace g37 := Lib.hid g37
        replace g12 := Lib.hid g12
        simp [Region.binds] at haf
        have hb7 : bf 7 = true := by simp [haf]
        have hb10 : bf 10 = true := by simp [haf]
        obtain rfl := g36.out hb7
        obtain ⟨rfl, hZ⟩ := hM.out.zero2 hb10 hfb
        have hZ := Lib.hid hZ
        unfold ptr at hM hK ⊢
        have xZ0 := hZ.out.c 0 rfl
        have yZ0 := hZ.out.f 0 (by simp)
        have xZ1 := hZ.out.c 1 rfl
        have yZ1 := hZ.out.f 1 (by simp)
        have xZ2 := hZ.out.c 2 rfl
        have yZ2 := hZ.out.f 2 (by simp)
        have zZ := hZ.out.2.2
        go_simp
        have hM3 := hM.out; rw [hb10] at hM3
        have hM4 := hM3.store2 (Turned.all3 hZ.out)
        exact hK.out _ _ ⟨n1, n2, v30, v31, v32, v33, v34, v29, v35, .agg #[.int .i64 0, .int .i64 0, .int .i64 0], v37, v10, .pointer (some ⟨n2, 0, none⟩), v12, rfl, (by rw [show up bf 12 10 = true from hb10]; exact hM4), g30.out, g31.out, g32.out, g33.out, g34.out, g29.out, g35.out, g36.out, g37.out, g12.out⟩
      · intro bf ac wv hfb haf hJ K' hK
        obtain ⟨n1, n2, v30, v31, v32, v33, v34, v29, v35, v36, v37, v10, v11, v12, rfl, hM, g30, g31, g32, g33, g34, g29, g35, g36, g37, g12⟩ := hJ
        replace hK := Lib.hid hK
        replace hM := Lib.hid hM
        replace g30 := Lib.hid g30
        replace g31 := Lib.hid g31
        replace g32 := Lib.hid g32
        replace g33 := Lib.hid g33
        replace g34 := Lib.hid g34
        replace g29 := Lib.hid g29
        replace g35 := Lib.hid g35
        replace g36 := Lib.hid g36
        replace g37 := Lib.hid g37
        replace g12 := Lib.hid g12
        simp [Region.binds] at haf
        have hb8 : bf 8 = true := by simp [haf]
        obtain rfl := g37.out hb8
        go_simp
        exact hK.out _ _ ⟨n1, n2, v30, v31, v32, v33, v34, v29, v35, v36, .int .i64 1, v10, v11, .int .i64 1, rfl, hM.out, g30.out, g31.out, g32.out, g33.out, g34.out, g29.out, g35.out, g36.out, g37.out, fun _ => rfl⟩
    · intro bf ac wv hall hJ
      obtain ⟨n1, n2, v30, v31, v32, v33, v34, v29, v35, v36, v37, v10, v11, v12, rfl, hM, g30, g31, g32, g33, g34, g29, g35, g36, g37, g12⟩ := hJ
      obtain rfl := g12 (hall 13 (by decide))
      rw [hall 9 (by decide), hall 10 (by decide), hall 11 (by decide), hall 12 (by decide)] at hM
      obtain ⟨rfl, h1⟩ := hM.c1 rfl
      obtain ⟨rfl, h2⟩ := hM.c2 rfl
      have hB := hM.below
      clear g30 g31 g32 g33 g34 g29 g35 g36 g37 g12 hM hall
      unfold ptr
      go_wp2
      go_meet
      exact ⟨n1, n2, rfl, rfl, rfl, Lib.hid h1, Lib.hid h2, hB⟩
  case rest =>
    obtain ⟨n1, n2, rfl, rfl, rfl, hJ, hH, hB⟩ := hcut
    have KD_8 := Lib.hid (KD_5.out.step hB)
    clear KD_5
    have KA_9 := Lib.hid (KA_6.out.step hB)
    clear KA_6
    have HB10 := Lib.hid (keep2 hB HB7.out)
    clear HB7 hB
    have xD0 : wc.cell? ⟨u2.heap.size, 0, none⟩ = some (.int .i64 code) := KD_8.out.c 0 rfl
    have xD1 : wc.cell? ⟨u2.heap.size, 1, none⟩ = some (.int .i64 a) := KD_8.out.c 1 rfl
    have xD2 : wc.cell? ⟨u2.heap.size, 2, none⟩ = some (.int .i64 p) := KD_8.out.c 2 rfl
    have xD3 : wc.cell? ⟨u2.heap.size, 3, none⟩ = some (.int .i64 0) := KD_8.out.c 3 rfl
    have xD4 : wc.cell? ⟨u2.heap.size, 4, none⟩ = some (.int .i64 0) := KD_8.out.c 4 rfl
    have xD5 : wc.cell? ⟨u2.heap.size, 5, none⟩ = some (.bool false) := KD_8.out.c 5 rfl
    have xD6 : wc.cell? ⟨u2.heap.size, 6, none⟩ = some (.bool false) := KD_8.out.c 6 rfl
    have zD : u2.heap.size < wc.heap.size := KD_8.out.2.2
    have z2D : u2.heap.size < wc.heap.size + 1 := by omega
    have xC0 : wc.cell? ⟨n2, 0, none⟩ = some (.int .i64 0) := hH.out.c 0 rfl
    have xC1 : wc.cell? ⟨n2, 1, none⟩ = some (.int .i64 0) := hH.out.c 1 rfl
    have xC2 : wc.cell? ⟨n2, 2, none⟩ = some (.int .i64 0) := hH.out.c 2 rfl
    have zC : n2 < wc.heap.size := hH.out.2.2
    have z2C : n2 < wc.heap.size + 1 := by omega
    go_wp2_with fail
    refine (recv_is code a p 0 0 false false 0 0 0 28 _ _ _ hw2.out).mono ?_
    rintro e u3 ⟨rfl, b3⟩
    clear xD0 xD1 xD2 xD3 xD4 xD5 xD6 zD z2D xC0 xC1 xC2 zC z2C
    have KD_11 := Lib.hid (KD_8.out.step b3)
    clear KD_8
    have KA_12 := Lib.hid (KA_9.out.step b3)
    clear KA_9
    have KB_13 := Lib.hid (hJ.out.step b3)
    clear hJ
    have KC_14 := Lib.hid (hH.out.step b3)
    clear hH
    have HB15 := Lib.hid (keep2 b3 HB10.out)
    clear HB10 b3
    have KD_16 := Lib.hid (KD_11.out.alloc (.cells #[.int .i64 0, .int .i64 0, .int .i64 0, .int .i64 0, .int .i64 0, .bool false, .bool false] 23))
    clear KD_11
    have KA_17 := Lib.hid (KA_12.out.alloc (.cells #[.int .i64 0, .int .i64 0, .int .i64 0, .int .i64 0, .int .i64 0, .bool false, .bool false] 23))
    clear KA_12
    have KB_18 := Lib.hid (KB_13.out.alloc (.cells #[.int .i64 0, .int .i64 0, .int .i64 0, .int .i64 0, .int .i64 0, .bool false, .bool false] 23))
    clear KB_13
    have KC_19 := Lib.hid (KC_14.out.alloc (.cells #[.int .i64 0, .int .i64 0, .int .i64 0, .int .i64 0, .int .i64 0, .bool false, .bool false] 23))
    clear KC_14
    have HB20 : Hid (Below w.heap.size w (u3.alloc (.cells #[.int .i64 0, .int .i64 0, .int .i64 0, .int .i64 0, .int .i64 0, .bool false, .bool false] 23))) := HB15.out.alloc HB15.out.size _
    clear HB15
    have KD_21 := Lib.hid (KD_16.out.alloc (.cells #[.int .i64 0, .int .i64 0, .int .i64 0] 25))
    clear KD_16
    have KA_22 := Lib.hid (KA_17.out.alloc (.cells #[.int .i64 0, .int .i64 0, .int .i64 0] 25))
    clear KA_17
    have KB_23 := Lib.hid (KB_18.out.alloc (.cells #[.int .i64 0, .int .i64 0, .int .i64 0] 25))
    clear KB_18
    have KC_24 := Lib.hid (KC_19.out.alloc (.cells #[.int .i64 0, .int .i64 0, .int .i64 0] 25))
    clear KC_19
    have HB25 : Hid (Below w.heap.size w ((u3.alloc (.cells #[.int .i64 0, .int .i64 0, .int .i64 0, .int .i64 0, .int .i64 0, .bool false, .bool false] 23)).alloc (.cells #[.int .i64 0, .int .i64 0, .int .i64 0] 25))) := HB20.out.alloc HB20.out.size _
    clear HB20
    go_wp2
    go_ret
    exact ⟨rfl, HB25.out⟩
set_option maxRecDepth 100000 in
set_option maxHeartbeats 4000000 in
theorem dir_no2 (code a b p q r : Int) (w : World) (hp : pw 7 a = p) (hq : pw 7 b = q) (hw1 : RW code b q 0 0 true false 1 p 0 0 (jc code b q p 0 true false) (hc3 2 q r)) (hw2 : RW code a p 0 0 false false 2 q r 1 zj zh) : Calls Try.prog 8 #[.int .i64 code, .int .i64 a, .int .i64 b] w fun e w' => e = .returned (.bool true) ∧ Below w.heap.size w w' := by
  replace hp := Lib.hid hp
  replace hq := Lib.hid hq
  replace hw1 := Lib.hid hw1
  replace hw2 := Lib.hid hw2
  have HB0 := Lib.hid (Below.refl w.heap.size w)
  go_enter Try.func8, Try.ntmps8
  go_wp2_with fail
  refine (head_any _).mono ?_
  rintro e u1 ⟨rfl, b1⟩
  have HB1 := Lib.hid (keep2 b1 HB0.out)
  clear HB0 b1
  go_wp2_with fail
  refine (device_is code a p _ hp.out).mono ?_
  rintro e u2 ⟨rfl, b2⟩
  have HB2 := Lib.hid (keep2 b2 HB1.out)
  clear HB1 b2
  have KD_3 := Lib.hid (Cs.new u2 (u2.heap.size) #[.int .i64 code, .int .i64 a, .int .i64 p, .int .i64 0, .int .i64 0, .bool false, .bool false] 23 (by simp))
  have HB4 : Hid (Below w.heap.size w (u2.alloc (.cells #[.int .i64 code, .int .i64 a, .int .i64 p, .int .i64 0, .int .i64 0, .bool false, .bool false] 23))) := HB2.out.alloc HB2.out.size _
  clear HB2
  have KD_5 := Lib.hid (KD_3.out.alloc (.cells #[.int .i64 1, .int .i64 p, .int .i64 0] 25))
  clear KD_3
  have KA_6 := Lib.hid (Cs.new (u2.alloc (.cells #[.int .i64 code, .int .i64 a, .int .i64 p, .int .i64 0, .int .i64 0, .bool false, .bool false] 23)) (u2.heap.size + 1) #[.int .i64 1, .int .i64 p, .int .i64 0] 25 (by simp))
  have HB7 : Hid (Below w.heap.size w ((u2.alloc (.cells #[.int .i64 code, .int .i64 a, .int .i64 p, .int .i64 0, .int .i64 0, .bool false, .bool false] 23)).alloc (.cells #[.int .i64 1, .int .i64 p, .int .i64 0] 25))) := HB4.out.alloc HB4.out.size _
  clear HB4
  go_upto_region 3 with fail
  obtain ⟨wq, hwq⟩ : ∃ wq, ((u2.alloc (.cells #[.int .i64 code, .int .i64 a, .int .i64 p, .int .i64 0, .int .i64 0, .bool false, .bool false] 23)).alloc (.cells #[.int .i64 1, .int .i64 p, .int .i64 0] 25)) = wq := ⟨_, rfl⟩
  rw [hwq] at KD_5
  rw [hwq] at KA_6
  rw [hwq] at HB7 ⊢
  clear hwq
  go_cut [10, 11, 12] from 29 to 37 (fun pc qc rc wc => ∃ n1 n2 : Nat, pc = .pointer (some ⟨n1, 0, none⟩) ∧ qc = .pointer (some ⟨n2, 0, none⟩) ∧ rc = .int .i64 0 ∧ Hid (Cs wc n1 #[.int .i64 code, .int .i64 b, .int .i64 q, .int .i64 p, .int .i64 0, .bool true, .bool false]) ∧ Hid (Cs wc n2 #[.int .i64 2, .int .i64 q, .int .i64 r]) ∧ Below wq.heap.size wq wc)
  case first =>
    refine region_inv (fun bf ac wv => ∃ (n1 n2 : Nat) (v30 v31 v32 v33 v34 v29 v35 v36 v37 v10 v11 v12 : Value), ac = { tmps := #[.int .i64 code, .int .i64 a, .int .i64 b, undef, undef, undef, .bool false, .bool true, .pointer (some ⟨u2.heap.size, 0, none⟩), .pointer (some ⟨u2.heap.size + 1, 0, none⟩), v10, v11, v12, undef, undef, undef, undef, undef, undef, undef, undef, undef, .bool true, .tuple #[.agg #[.int .i64 code, .int .i64 a, .int .i64 p, .int .i64 0, .int .i64 0, .bool false, .bool false], .agg #[.int .i64 1, .int .i64 p, .int .i64 0]], .int .i64 code, .int .i64 a, .tuple #[.agg #[.int .i64 code, .int .i64 a, .int .i64 p, .int .i64 0, .int .i64 0, .bool false, .bool false], .agg #[.int .i64 1, .int .i64 p, .int .i64 0]], .agg #[.int .i64 code, .int .i64 a, .int .i64 p, .int .i64 0, .int .i64 0, .bool false, .bool false], .agg #[.int .i64 1, .int .i64 p, .int .i64 0], v29, v30, v31, v32, v33, v34, v35, v36, v37, undef, undef, undef, undef, undef, undef, undef, undef, undef, undef, undef, undef, undef, undef, undef, undef, undef, undef, undef, undef, undef, undef, undef, undef, undef, undef, undef, undef, undef, undef, undef, undef, undef, undef, undef, undef, undef, undef, undef, undef, undef, undef, undef], defers := [] } ∧ Mem wq wv n1 n2 v10 v11 (bf 9) (bf 11) (bf 10) (bf 12) #[.int .i64 code, .int .i64 b, .int .i64 q, .int .i64 p, .int .i64 0, .bool true, .bool false] #[.int .i64 2, .int .i64 q, .int .i64 r] ∧ (bf 0 = true → v30 = .int .i64 code) ∧ (bf 1 = true → v31 = .int .i64 b) ∧ (bf 2 = true → v32 = .agg #[.int .i64 code, .int .i64 b, .int .i64 q, .int .i64 0, .int .i64 0, .bool true, .bool false]) ∧ (bf 3 = true → v33 = .agg #[.int .i64 1, .int .i64 p, .int .i64 0]) ∧ (bf 4 = true → v34 = .tuple #[.agg #[.int .i64 code, .int .i64 b, .int .i64 q, .int .i64 p, .int .i64 0, .bool true, .bool false], .agg #[.int .i64 2, .int .i64 q, .int .i64 r], .int .i64 0]) ∧ (bf 5 = true → v29 = .tuple #[.agg #[.int .i64 code, .int .i64 b, .int .i64 q, .int .i64 p, .int .i64 0, .bool true, .bool false], .agg #[.int .i64 2, .int .i64 q, .int .i64 r], .int .i64 0]) ∧ (bf 6 = true → v35 = .agg #[.int .i64 code, .int .i64 b, .int .i64 q, .int .i64 p, .int .i64 0, .bool true, .bool false]) ∧ (bf 7 = true → v36 = .agg #[.int .i64 2, .int .i64 q, .int .i64 r]) ∧ (bf 8 = true → v37 = .int .i64 0) ∧ (bf 13 = true → v12 = .int .i64 0)) (by kernel_rfl) (by decide +kernel) ?_ ?_ ?_
    · exact ⟨_, _, _, _, _, _, _, _, _, _, _, _, _, _, rfl, Mem.start _ _ _ _ _, (by simp), (by simp), (by simp), (by simp), (by simp), (by simp), (by simp), (by simp), (by simp), (by simp)⟩
    · refine ⟨?_, ?_, ?_, ?_, ?_, ?_, ?_, ?_, ?_, ?_, ?_, ?_, ?_, ?_, trivial⟩
      · intro bf ac wv hfb haf hJ K' hK
        obtain ⟨n1, n2, v30, v31, v32, v33, v34, v29, v35, v36, v37, v10, v11, v12, rfl, hM, g30, g31, g32, g33, g34, g29, g35, g36, g37, g12⟩ := hJ
        replace hK := Lib.hid hK
        replace hM := Lib.hid hM
        replace g30 := Lib.hid g30
        replace g31 := Lib.hid g31
        replace g32 := Lib.hid g32
        replace g33 := Lib.hid g33
        replace g34 := Lib.hid g34
        replace g29 := Lib.hid g29
        replace g35 := Lib.hid g35
        replace g36 := Lib.hid g36
        replace g37 := Lib.hid g37
        replace g12 := Lib.hid g12
        go_simp
        exact hK.out _ _ ⟨n1, n2, .int .i64 code, v31, v32, v33, v34, v29, v35, v36, v37, v10, v11, v12, rfl, hM.out, fun _ => rfl, g31.out, g32.out, g33.out, g34.out, g29.out, g35.out, g36.out, g37.out, g12.out⟩
      · intro bf ac wv hfb haf hJ K' hK
        obtain ⟨n1, n2, v30, v31, v32, v33, v34, v29, v35, v36, v37, v10, v11, v12, rfl, hM, g30, g31, g32, g33, g34, g29, g35, g36, g37, g12⟩ := hJ
        replace hK := Lib.hid hK
        replace hM := Lib.hid hM
        replace g30 := Lib.hid g30
        replace g31 := Lib.hid g31
        replace g32 := Lib.hid g32
        replace g33 := Lib.hid g33
        replace g34 := Lib.hid g34
        replace g29 := Lib.hid g29
        replace g35 := Lib.hid g35
        replace g36 := Lib.hid g36
        replace g37 := Lib.hid g37
        replace g12 := Lib.hid g12
        go_simp
        exact hK.out _ _ ⟨n1, n2, v30, .int .i64 b, v32, v33, v34, v29, v35, v36, v37, v10, v11, v12, rfl, hM.out, g30.out, fun _ => rfl, g32.out, g33.out, g34.out, g29.out, g35.out, g36.out, g37.out, g12.out⟩
      · intro bf ac wv hfb haf hJ K' hK
        obtain ⟨n1, n2, v30, v31, v32, v33, v34, v29, v35, v36, v37, v10, v11, v12, rfl, hM, g30, g31, g32, g33, g34, g29, g35, g36, g37, g12⟩ := hJ
        replace hK := Lib.hid hK
        replace hM := Lib.hid hM
        replace g30 := Lib.hid g30
        replace g31 := Lib.hid g31
        replace g32 := Lib.hid g32
        replace g33 := Lib.hid g33
        replace g34 := Lib.hid g34
        replace g29 := Lib.hid g29
        replace g35 := Lib.hid g35
        replace g36 := Lib.hid g36
        replace g37 := Lib.hid g37
        replace g12 := Lib.hid g12
        simp [Region.binds] at haf
        have hb0 : bf 0 = true := by simp [haf]
        have hb1 : bf 1 = true := by simp [haf]
        obtain rfl := g30.out hb0
        obtain rfl := g31.out hb1
        go_simp
        go_at_call 14
        refine (hub_is code b q _ hq.out).mono ?_
        rintro e w4 ⟨rfl, b4⟩
        exact hK.out _ _ ⟨n1, n2, .int .i64 code, .int .i64 b, .agg #[.int .i64 code, .int .i64 b, .int .i64 q, .int .i64 0, .int .i64 0, .bool true, .bool false], v33, v34, v29, v35, v36, v37, v10, v11, v12, rfl, hM.out.step b4, g30.out, g31.out, fun _ => rfl, g33.out, g34.out, g29.out, g35.out, g36.out, g37.out, g12.out⟩
      · intro bf ac wv hfb haf hJ K' hK
        obtain ⟨n1, n2, v30, v31, v32, v33, v34, v29, v35, v36, v37, v10, v11, v12, rfl, hM, g30, g31, g32, g33, g34, g29, g35, g36, g37, g12⟩ := hJ
        replace hK := Lib.hid hK
        replace hM := Lib.hid hM
        replace g30 := Lib.hid g30
        replace g31 := Lib.hid g31
        replace g32 := Lib.hid g32
        replace g33 := Lib.hid g33
        replace g34 := Lib.hid g34
        replace g29 := Lib.hid g29
        replace g35 := Lib.hid g35
        replace g36 := Lib.hid g36
        replace g37 := Lib.hid g37
        replace g12 := Lib.hid g12
        have hA := KA_6.out.step hM.out.below
        have xA0 := hA.c 0 rfl
        have xA1 := hA.c 1 rfl
        have xA2 := hA.c 2 rfl
        have zA := hA.2.2
        clear hA
        go_simp
        exact hK.out _ _ ⟨n1, n2, v30, v31, v32, .agg #[.int .i64 1, .int .i64 p, .int .i64 0], v34, v29, v35, v36, v37, v10, v11, v12, rfl, hM.out, g30.out, g31.out, g32.out, fun _ => rfl, g34.out, g29.out, g35.out, g36.out, g37.out, g12.out⟩
      · intro bf ac wv hfb haf hJ K' hK
        obtain ⟨n1, n2, v30, v31, v32, v33, v34, v29, v35, v36, v37, v10, v11, v12, rfl, hM, g30, g31, g32, g33, g34, g29, g35, g36, g37, g12⟩ := hJ
        replace hK := Lib.hid hK
        replace hM := Lib.hid hM
        replace g30 := Lib.hid g30
        replace g31 := Lib.hid g31
        replace g32 := Lib.hid g32
        replace g33 := Lib.hid g33
        replace g34 := Lib.hid g34
        replace g29 := Lib.hid g29
        replace g35 := Lib.hid g35
        replace g36 := Lib.hid g36
        replace g37 := Lib.hid g37
        replace g12 := Lib.hid g12
        simp [Region.binds] at haf
        have hb2 : bf 2 = true := by simp [haf]
        have hb3 : bf 3 = true := by simp [haf]
        obtain rfl := g32.out hb2
        obtain rfl := g33.out hb3
        go_simp
        go_at_call 12
        refine (recv_is code b q 0 0 true false 1 p 0 0 _ _ _ hw1.out).mono ?_
        rintro e w5 ⟨rfl, b5⟩
        exact hK.out _ _ ⟨n1, n2, v30, v31, .agg #[.int .i64 code, .int .i64 b, .int .i64 q, .int .i64 0, .int .i64 0, .bool true, .bool false], .agg #[.int .i64 1, .int .i64 p, .int .i64 0], .tuple #[.agg #[.int .i64 code, .int .i64 b, .int .i64 q, .int .i64 p, .int .i64 0, .bool true, .bool false], .agg #[.int .i64 2, .int .i64 q, .int .i64 r], .int .i64 0], v29, v35, v36, v37, v10, v11, v12, rfl, hM.out.step b5, g30.out, g31.out, g32.out, g33.out, fun _ => rfl, g29.out, g35.out, g36.out, g37.out, g12.out⟩
      · intro bf ac wv hfb haf hJ K' hK
        obtain ⟨n1, n2, v30, v31, v32, v33, v34, v29, v35, v36, v37, v10, v11, v12, rfl, hM, g30, g31, g32, g33, g34, g29, g35, g36, g37, g12⟩ := hJ
        replace hK := Lib.hid hK
        replace hM := Lib.hid hM
        replace g30 := Lib.hid g30
        replace g31 := Lib.hid g31
        replace g32 := Lib.hid g32
        replace g33 := Lib.hid g33
        replace g34 := Lib.hid g34
        replace g29 := Lib.hid g29
        replace g35 := Lib.hid g35
        replace g36 := Lib.hid g36
        replace g37 := Lib.hid g37
        replace g12 := Lib.hid g12
        simp [Region.binds] at haf
        have hb4 : bf 4 = true := by simp [haf]
        obtain rfl := g34.out hb4
        go_simp
        exact hK.out _ _ ⟨n1, n2, v30, v31, v32, v33, .tuple #[.agg #[.int .i64 code, .int .i64 b, .int .i64 q, .int .i64 p, .int .i64 0, .bool true, .bool false], .agg #[.int .i64 2, .int .i64 q, .int .i64 r], .int .i64 0], .tuple #[.agg #[.int .i64 code, .int .i64 b, .int .i64 q, .int .i64 p, .int .i64 0, .bool true, .bool false], .agg #[.int .i64 2, .int .i64 q, .int .i64 r], .int .i64 0], v35, v36, v37, v10, v11, v12, rfl, hM.out, g30.out, g31.out, g32.out, g33.out, g34.out, fun _ => rfl, g35.out, g36.out, g37.out, g12.out⟩
      · intro bf ac wv hfb haf hJ K' hK
        obtain ⟨n1, n2, v30, v31, v32, v33, v34, v29, v35, v36, v37, v10, v11, v12, rfl, hM, g30, g31, g32, g33, g34, g29, g35, g36, g37, g12⟩ := hJ
        replace hK := Lib.hid hK
        replace hM := Lib.hid hM
        replace g30 := Lib.hid g30
        replace g31 := Lib.hid g31
        replace g32 := Lib.hid g32
        replace g33 := Lib.hid g33
        replace g34 := Lib.hid g34
        replace g29 := Lib.hid g29
        replace g35 := Lib.hid g35
        replace g36 := Lib.hid g36
        replace g37 := Lib.hid g37
        replace g12 := Lib.hid g12
        simp [Region.binds] at haf
        have hb5 : bf 5 = true := by simp [haf]
        obtain rfl := g29.out hb5
        go_simp
        exact hK.out _ _ ⟨n1, n2, v30, v31, v32, v33, v34, .tuple #[.agg #[.int .i64 code, .int .i64 b, .int .i64 q, .int .i64 p, .int .i64 0, .bool true, .bool false], .agg #[.int .i64 2, .int .i64 q, .int .i64 r], .int .i64 0], .agg #[.int .i64 code, .int .i64 b, .int .i64 q, .int .i64 p, .int .i64 0, .bool true, .bool false], v36, v37, v10, v11, v12, rfl, hM.out, g30.out, g31.out, g32.out, g33.out, g34.out, g29.out, fun _ => rfl, g36.out, g37.out, g12.out⟩
      · intro bf ac wv hfb haf hJ K' hK
        obtain ⟨n1, n2, v30, v31, v32, v33, v34, v29, v35, v36, v37, v10, v11, v12, rfl, hM, g30, g31, g32, g33, g34, g29, g35, g36, g37, g12⟩ := hJ
        replace hK := Lib.hid hK
        replace hM := Lib.hid hM
        replace g30 := Lib.hid g30
        replace g31 := Lib.hid g31
        replace g32 := Lib.hid g32
        replace g33 := Lib.hid g33
        replace g34 := Lib.hid g34
        replace g29 := Lib.hid g29
        replace g35 := Lib.hid g35
        replace g36 := Lib.hid g36
        replace g37 := Lib.hid g37
        replace g12 := Lib.hid g12
        simp [Region.binds] at haf
        have hb5 : bf 5 = true := by simp [haf]
        obtain rfl := g29.out hb5
        go_simp
        exact hK.out _ _ ⟨n1, n2, v30, v31, v32, v33, v34, .tuple #[.agg #[.int .i64 code, .int .i64 b, .int .i64 q, .int .i64 p, .int .i64 0, .bool true, .bool false], .agg #[.int .i64 2, .int .i64 q, .int .i64 r], .int .i64 0], v35, .agg #[.int .i64 2, .int .i64 q, .int .i64 r], v37, v10, v11, v12, rfl, hM.out, g30.out, g31.out, g32.out, g33.out, g34.out, g29.out, g35.out, fun _ => rfl, g37.out, g12.out⟩
      · intro bf ac wv hfb haf hJ K' hK
        obtain ⟨n1, n2, v30, v31, v32, v33, v34, v29, v35, v36, v37, v10, v11, v12, rfl, hM, g30, g31, g32, g33, g34, g29, g35, g36, g37, g12⟩ := hJ
        replace hK := Lib.hid hK
        replace hM := Lib.hid hM
        replace g30 := Lib.hid g30
        replace g31 := Lib.hid g31
        replace g32 := Lib.hid g32
        replace g33 := Lib.hid g33
        replace g34 := Lib.hid g34
        replace g29 := Lib.hid g29
        replace g35 := Lib.hid g35
        replace g36 := Lib.hid g36
        replace g37 := Lib.hid g37
        replace g12 := Lib.hid g12
        simp [Region.binds] at haf
        have hb5 : bf 5 = true := by simp [haf]
        obtain rfl := g29.out hb5
        go_simp
        exact hK.out _ _ ⟨n1, n2, v30, v31, v32, v33, v34, .tuple #[.agg #[.int .i64 code, .int .i64 b, .int .i64 q, .int .i64 p, .int .i64 0, .bool true, .bool false], .agg #[.int .i64 2, .int .i64 q, .int .i64 r], .int .i64 0], v35, v36, .int .i64 0, v10, v11, v12, rfl, hM.out, g30.out, g31.out, g32.out, g33.out, g34.out, g29.out, g35.out, g36.out, fun _ => rfl, g12.out⟩
      · intro bf ac wv hfb haf hJ K' hK
        obtain ⟨n1, n2, v30, v31, v32, v33, v34, v29, v35, v36, v37, v10, v11, v12, rfl, hM, g30, g31, g32, g33, g34, g29, g35, g36, g37, g12⟩ := hJ
        replace hK := Lib.hid hK
        replace hM := Lib.hid hM
        replace g30 := Lib.hid g30
        replace g31 := Lib.hid g31
        replace g32 := Lib.hid g32
        replace g33 := Lib.hid g33
        replace g34 := Lib.hid g34
        replace g29 := Lib.hid g29
        replace g35 := Lib.hid g35
        replace g36 := Lib.hid g36
        replace g37 := Lib.hid g37
        replace g12 := Lib.hid g12
        obtain ⟨m2, hM2⟩ := hM.out.alloc1 hfb
        have hM2 := Lib.hid hM2
        clear hM
        go_simp
        exact hK.out _ _ ⟨_, m2, v30, v31, v32, v33, v34, v29, v35, v36, v37, _, v11, v12, rfl, hM2.out, g30.out, g31.out, g32.out, g33.out, g34.out, g29.out, g35.out, g36.out, g37.out, g12.out⟩
      · intro bf ac wv hfb haf hJ K' hK
        obtain ⟨n1, n2, v30, v31, v32, v33, v34, v29, v35, v36, v37, v10, v11, v12, rfl, hM, g30, g31, g32, g33, g34, g29, g35, g36, g37, g12⟩ := hJ
        replace hK := Lib.hid hK
        replace hM := Lib.hid hM
        replace g30 := Lib.hid g30
        replace g31 := Lib.hid g31
        replace g32 := Lib.hid g32
        replace g33 := Lib.hid g33
        replace g34 := Lib.hid g34
        replace g29 := Lib.hid g29
        replace g35 := Lib.hid g35
        replace g36 := Lib.hid g36
        replace g37 := Lib.hid g37
        replace g12 := Lib.hid g12
        obtain ⟨m1, hM2⟩ := hM.out.alloc2 hfb
        have hM2 := Lib.hid hM2
        clear hM
        go_simp
        exact hK.out _ _ ⟨m1, _, v30, v31, v32, v33, v34, v29, v35, v36, v37, v10, _, v12, rfl, hM2.out, g30.out, g31.out, g32.out, g33.out, g34.out, g29.out, g35.out, g36.out, g37.out, g12.out⟩
      · intro bf ac wv hfb haf hJ K' hK
        obtain ⟨n1, n2, v30, v31, v32, v33, v34, v29, v35, v36, v37, v10, v11, v12, rfl, hM, g30, g31, g32, g33, g34, g29, g35, g36, g37, g12⟩ := hJ
        replace hK := Lib.hid hK
        replace hM := Lib.hid hM
        replace g30 := Lib.hid g30
        replace g31 := Lib.hid g31
        replace g32 := Lib.hid g32
        replace g33 := Lib.hid g33
        replace g34 := Lib.hid g34
        replace g29 := Lib.hid g29
        replace g35 := Lib.hid g35
        replace g36 := Lib.hid g36
        replace g37 := Lib.hid g37
        replace g12 := Lib.hid g12
        simp [Region.binds] at haf
        have hb6 : bf 6 = true := by simp [haf]
        have hb9 : bf 9 = true := by simp [haf]
        obtain rfl := g35.out hb6
        obtain ⟨rfl, hZ⟩ := hM.out.zero1 hb9 hfb
        have hZ := Lib.hid hZ
        unfold ptr at hM hK ⊢
        have xZ0 := hZ.out.c 0 rfl
        have yZ0 := hZ.out.f 0 (by simp)
        have xZ1 := hZ.out.c 1 rfl
        have yZ1 := hZ.out.f 1 (by simp)
        have xZ2 := hZ.out.c 2 rfl
        have yZ2 := hZ.out.f 2 (by simp)
        have xZ3 := hZ.out.c 3 rfl
        have yZ3 := hZ.out.f 3 (by simp)
        have xZ4 := hZ.out.c 4 rfl
        have yZ4 := hZ.out.f 4 (by simp)
        have xZ5 := hZ.out.c 5 rfl
        have yZ5 := hZ.out.f 5 (by simp)
        have xZ6 := hZ.out.c 6 rfl
        have yZ6 := hZ.out.f 6 (by simp)
        have zZ := hZ.out.2.2
        go_simp
        have hM3 := hM.out; rw [hb9] at hM3
        have hM4 := hM3.store1 (Turned.all7 hZ.out)
        exact hK.out _ _ ⟨n1, n2, v30, v31, v32, v33, v34, v29, .agg #[.int .i64 code, .int .i64 b, .int .i64 q, .int .i64 p, .int .i64 0, .bool true, .bool false], v36, v37, .pointer (some ⟨n1, 0, none⟩), v11, v12, rfl, (by rw [show up bf 11 9 = true from hb9]; exact hM4), g30.out, g31.out, g32.out, g33.out, g34.out, g29.out, g35.out, g36.out, g37.out, g12.out⟩
      · intro bf ac wv hfb haf hJ K' hK
        obtain ⟨n1, n2, v30, v31, v32, v33, v34, v29, v35, v36, v37, v10, v11, v12, rfl, hM, g30, g31, g32, g33, g34, g29, g35, g36, g37, g12⟩ := hJ
        replace hK := Lib.hid hK
        replace hM := Lib.hid hM
        replace g30 := Lib.hid g30
        replace g31 := Lib.hid g31
        replace g32 := Lib.hid g32
        replace g33 := Lib.hid g33
        replace g34 := Lib.hid g34
        replace g29 := Lib.hid g29
        replace g35 := Lib.hid g35
        replace g36 := Lib.hid g36
        replace g37 := Lib.hid g37
        replace g12 := Lib.hid g12
        simp [Region.binds] at haf
        have hb7 : bf 7 = true := by simp [haf]
        have hb10 : bf 10 = true := by simp [haf]
        obtain rfl := g36.out hb7
        obtain ⟨rfl, hZ⟩ := hM.out.zero2 hb10 hfb
        have hZ := Lib.hid hZ
        unfold ptr at hM hK ⊢
        have xZ0 := hZ.out.c 0 rfl
        have yZ0 := hZ.out.f 0 (by simp)
        have xZ1 := hZ.out.c 1 rfl
        have yZ1 := hZ.out.f 1 (by simp)
        have xZ2 := hZ.out.c 2 rfl
        have yZ2 := hZ.out.f 2 (by simp)
        have zZ := hZ.out.2.2
        go_simp
        have hM3 := hM.out; rw [hb10] at hM3
        have hM4 := hM3.store2 (Turned.all3 hZ.out)
        exact hK.out _ _ ⟨n1, n2, v30, v31, v32, v33, v34, v29, v35, .agg #[.int .i64 2, .int .i64 q, .int .i64 r], v37, v10, .pointer (some ⟨n2, 0, none⟩), v12, rfl, (by rw [show up bf 12 10 = true from hb10]; exact hM4), g30.out, g31.out, g32.out, g33.out, g34.out, g29.out, g35.out, g36.out, g37.out, g12.out⟩
      · intro bf ac wv hfb haf hJ K' hK
        obtain ⟨n1, n2, v30, v31, v32, v33, v34, v29, v35, v36, v37, v10, v11, v12, rfl, hM, g30, g31, g32, g33, g34, g29, g35, g36, g37, g12⟩ := hJ
        replace hK := Lib.hid hK
        replace hM := Lib.hid hM
        replace g30 := Lib.hid g30
        replace g31 := Lib.hid g31
        replace g32 := Lib.hid g32
        replace g33 := Lib.hid g33
        replace g34 := Lib.hid g34
        replace g29 := Lib.hid g29
        replace g35 := Lib.hid g35
        replace g36 := Lib.hid g36
        replace g37 := Lib.hid g37
        replace g12 := Lib.hid g12
        simp [Region.binds] at haf
        have hb8 : bf 8 = true := by simp [haf]
        obtain rfl := g37.out hb8
        go_simp
        exact hK.out _ _ ⟨n1, n2, v30, v31, v32, v33, v34, v29, v35, v36, .int .i64 0, v10, v11, .int .i64 0, rfl, hM.out, g30.out, g31.out, g32.out, g33.out, g34.out, g29.out, g35.out, g36.out, g37.out, fun _ => rfl⟩
    · intro bf ac wv hall hJ
      obtain ⟨n1, n2, v30, v31, v32, v33, v34, v29, v35, v36, v37, v10, v11, v12, rfl, hM, g30, g31, g32, g33, g34, g29, g35, g36, g37, g12⟩ := hJ
      obtain rfl := g12 (hall 13 (by decide))
      rw [hall 9 (by decide), hall 10 (by decide), hall 11 (by decide), hall 12 (by decide)] at hM
      obtain ⟨rfl, h1⟩ := hM.c1 rfl
      obtain ⟨rfl, h2⟩ := hM.c2 rfl
      have hB := hM.below
      clear g30 g31 g32 g33 g34 g29 g35 g36 g37 g12 hM hall
      unfold ptr
      go_wp2
      go_meet
      exact ⟨n1, n2, rfl, rfl, rfl, Lib.hid h1, Lib.hid h2, hB⟩
  case rest =>
    obtain ⟨n1, n2, rfl, rfl, rfl, hJ, hH, hB⟩ := hcut
    have KD_8 := Lib.hid (KD_5.out.step hB)
    clear KD_5
    have KA_9 := Lib.hid (KA_6.out.step hB)
    clear KA_6
    have HB10 := Lib.hid (keep2 hB HB7.out)
    clear HB7 hB
    have xD0 : wc.cell? ⟨u2.heap.size, 0, none⟩ = some (.int .i64 code) := KD_8.out.c 0 rfl
    have xD1 : wc.cell? ⟨u2.heap.size, 1, none⟩ = some (.int .i64 a) := KD_8.out.c 1 rfl
    have xD2 : wc.cell? ⟨u2.heap.size, 2, none⟩ = some (.int .i64 p) := KD_8.out.c 2 rfl
    have xD3 : wc.cell? ⟨u2.heap.size, 3, none⟩ = some (.int .i64 0) := KD_8.out.c 3 rfl
    have xD4 : wc.cell? ⟨u2.heap.size, 4, none⟩ = some (.int .i64 0) := KD_8.out.c 4 rfl
    have xD5 : wc.cell? ⟨u2.heap.size, 5, none⟩ = some (.bool false) := KD_8.out.c 5 rfl
    have xD6 : wc.cell? ⟨u2.heap.size, 6, none⟩ = some (.bool false) := KD_8.out.c 6 rfl
    have zD : u2.heap.size < wc.heap.size := KD_8.out.2.2
    have z2D : u2.heap.size < wc.heap.size + 1 := by omega
    have xC0 : wc.cell? ⟨n2, 0, none⟩ = some (.int .i64 2) := hH.out.c 0 rfl
    have xC1 : wc.cell? ⟨n2, 1, none⟩ = some (.int .i64 q) := hH.out.c 1 rfl
    have xC2 : wc.cell? ⟨n2, 2, none⟩ = some (.int .i64 r) := hH.out.c 2 rfl
    have zC : n2 < wc.heap.size := hH.out.2.2
    have z2C : n2 < wc.heap.size + 1 := by omega
    go_wp2_with fail
    refine (recv_is code a p 0 0 false false 2 q r 1 _ _ _ hw2.out).mono ?_
    rintro e u3 ⟨rfl, b3⟩
    clear xD0 xD1 xD2 xD3 xD4 xD5 xD6 zD z2D xC0 xC1 xC2 zC z2C
    have KD_11 := Lib.hid (KD_8.out.step b3)
    clear KD_8
    have KA_12 := Lib.hid (KA_9.out.step b3)
    clear KA_9
    have KB_13 := Lib.hid (hJ.out.step b3)
    clear hJ
    have KC_14 := Lib.hid (hH.out.step b3)
    clear hH
    have HB15 := Lib.hid (keep2 b3 HB10.out)
    clear HB10 b3
    have KD_16 := Lib.hid (KD_11.out.alloc (.cells #[.int .i64 0, .int .i64 0, .int .i64 0, .int .i64 0, .int .i64 0, .bool false, .bool false] 23))
    clear KD_11
    have KA_17 := Lib.hid (KA_12.out.alloc (.cells #[.int .i64 0, .int .i64 0, .int .i64 0, .int .i64 0, .int .i64 0, .bool false, .bool false] 23))
    clear KA_12
    have KB_18 := Lib.hid (KB_13.out.alloc (.cells #[.int .i64 0, .int .i64 0, .int .i64 0, .int .i64 0, .int .i64 0, .bool false, .bool false] 23))
    clear KB_13
    have KC_19 := Lib.hid (KC_14.out.alloc (.cells #[.int .i64 0, .int .i64 0, .int .i64 0, .int .i64 0, .int .i64 0, .bool false, .bool false] 23))
    clear KC_14
    have HB20 : Hid (Below w.heap.size w (u3.alloc (.cells #[.int .i64 0, .int .i64 0, .int .i64 0, .int .i64 0, .int .i64 0, .bool false, .bool false] 23))) := HB15.out.alloc HB15.out.size _
    clear HB15
    have KD_21 := Lib.hid (KD_16.out.alloc (.cells #[.int .i64 0, .int .i64 0, .int .i64 0] 25))
    clear KD_16
    have KA_22 := Lib.hid (KA_17.out.alloc (.cells #[.int .i64 0, .int .i64 0, .int .i64 0] 25))
    clear KA_17
    have KB_23 := Lib.hid (KB_18.out.alloc (.cells #[.int .i64 0, .int .i64 0, .int .i64 0] 25))
    clear KB_18
    have KC_24 := Lib.hid (KC_19.out.alloc (.cells #[.int .i64 0, .int .i64 0, .int .i64 0] 25))
    clear KC_19
    have HB25 : Hid (Below w.heap.size w ((u3.alloc (.cells #[.int .i64 0, .int .i64 0, .int .i64 0, .int .i64 0, .int .i64 0, .bool false, .bool false] 23)).alloc (.cells #[.int .i64 0, .int .i64 0, .int .i64 0] 25))) := HB20.out.alloc HB20.out.size _
    clear HB20
    go_wp2
    go_ret
    exact ⟨rfl, HB25.out⟩
set_option maxRecDepth 100000 in
set_option maxHeartbeats 4000000 in
theorem dir_yes (code a b p q r t K : Int) (w : World) (hp : pw 7 a = p) (hq : pw 7 b = q) (hw1 : RW code b q 0 0 true false 1 p 0 0 (jc code b q p 0 true false) (hc3 2 q r)) (hw2 : RW code a p 0 0 false false 2 q r 0 (jc code a p q K false true) (hc3 3 0 t)) (hw3 : RW code b q p 0 true false 3 0 r 17 zj zh) (hw4 : RW code a p 0 0 false false 2 q t 17 zj zh) : Calls Try.prog 8 #[.int .i64 code, .int .i64 a, .int .i64 b] w fun e w' => e = .returned (.bool true) ∧ Below w.heap.size w w' := by
  replace hp := Lib.hid hp
  replace hq := Lib.hid hq
  replace hw1 := Lib.hid hw1
  replace hw2 := Lib.hid hw2
  replace hw3 := Lib.hid hw3
  replace hw4 := Lib.hid hw4
  have HB0 := Lib.hid (Below.refl w.heap.size w)
  go_enter Try.func8, Try.ntmps8
  go_wp2_with fail
  refine (head_any _).mono ?_
  rintro e u1 ⟨rfl, b1⟩
  have HB1 := Lib.hid (keep2 b1 HB0.out)
  clear HB0 b1
  go_wp2_with fail
  refine (device_is code a p _ hp.out).mono ?_
  rintro e u2 ⟨rfl, b2⟩
  have HB2 := Lib.hid (keep2 b2 HB1.out)
  clear HB1 b2
  have KD_3 := Lib.hid (Cs.new u2 (u2.heap.size) #[.int .i64 code, .int .i64 a, .int .i64 p, .int .i64 0, .int .i64 0, .bool false, .bool false] 23 (by simp))
  have HB4 : Hid (Below w.heap.size w (u2.alloc (.cells #[.int .i64 code, .int .i64 a, .int .i64 p, .int .i64 0, .int .i64 0, .bool false, .bool false] 23))) := HB2.out.alloc HB2.out.size _
  clear HB2
  have KD_5 := Lib.hid (KD_3.out.alloc (.cells #[.int .i64 1, .int .i64 p, .int .i64 0] 25))
  clear KD_3
  have KA_6 := Lib.hid (Cs.new (u2.alloc (.cells #[.int .i64 code, .int .i64 a, .int .i64 p, .int .i64 0, .int .i64 0, .bool false, .bool false] 23)) (u2.heap.size + 1) #[.int .i64 1, .int .i64 p, .int .i64 0] 25 (by simp))
  have HB7 : Hid (Below w.heap.size w ((u2.alloc (.cells #[.int .i64 code, .int .i64 a, .int .i64 p, .int .i64 0, .int .i64 0, .bool false, .bool false] 23)).alloc (.cells #[.int .i64 1, .int .i64 p, .int .i64 0] 25))) := HB4.out.alloc HB4.out.size _
  clear HB4
  go_upto_region 3 with fail
  obtain ⟨wq, hwq⟩ : ∃ wq, ((u2.alloc (.cells #[.int .i64 code, .int .i64 a, .int .i64 p, .int .i64 0, .int .i64 0, .bool false, .bool false] 23)).alloc (.cells #[.int .i64 1, .int .i64 p, .int .i64 0] 25)) = wq := ⟨_, rfl⟩
  rw [hwq] at KD_5
  rw [hwq] at KA_6
  rw [hwq] at HB7 ⊢
  clear hwq
  go_cut [10, 11, 12] from 29 to 37 (fun pc qc rc wc => ∃ n1 n2 : Nat, pc = .pointer (some ⟨n1, 0, none⟩) ∧ qc = .pointer (some ⟨n2, 0, none⟩) ∧ rc = .int .i64 0 ∧ Hid (Cs wc n1 #[.int .i64 code, .int .i64 b, .int .i64 q, .int .i64 p, .int .i64 0, .bool true, .bool false]) ∧ Hid (Cs wc n2 #[.int .i64 2, .int .i64 q, .int .i64 r]) ∧ Below wq.heap.size wq wc)
  case first =>
    refine region_inv (fun bf ac wv => ∃ (n1 n2 : Nat) (v30 v31 v32 v33 v34 v29 v35 v36 v37 v10 v11 v12 : Value), ac = { tmps := #[.int .i64 code, .int .i64 a, .int .i64 b, undef, undef, undef, .bool false, .bool true, .pointer (some ⟨u2.heap.size, 0, none⟩), .pointer (some ⟨u2.heap.size + 1, 0, none⟩), v10, v11, v12, undef, undef, undef, undef, undef, undef, undef, undef, undef, .bool true, .tuple #[.agg #[.int .i64 code, .int .i64 a, .int .i64 p, .int .i64 0, .int .i64 0, .bool false, .bool false], .agg #[.int .i64 1, .int .i64 p, .int .i64 0]], .int .i64 code, .int .i64 a, .tuple #[.agg #[.int .i64 code, .int .i64 a, .int .i64 p, .int .i64 0, .int .i64 0, .bool false, .bool false], .agg #[.int .i64 1, .int .i64 p, .int .i64 0]], .agg #[.int .i64 code, .int .i64 a, .int .i64 p, .int .i64 0, .int .i64 0, .bool false, .bool false], .agg #[.int .i64 1, .int .i64 p, .int .i64 0], v29, v30, v31, v32, v33, v34, v35, v36, v37, undef, undef, undef, undef, undef, undef, undef, undef, undef, undef, undef, undef, undef, undef, undef, undef, undef, undef, undef, undef, undef, undef, undef, undef, undef, undef, undef, undef, undef, undef, undef, undef, undef, undef, undef, undef, undef, undef, undef, undef, undef, undef, undef], defers := [] } ∧ Mem wq wv n1 n2 v10 v11 (bf 9) (bf 11) (bf 10) (bf 12) #[.int .i64 code, .int .i64 b, .int .i64 q, .int .i64 p, .int .i64 0, .bool true, .bool false] #[.int .i64 2, .int .i64 q, .int .i64 r] ∧ (bf 0 = true → v30 = .int .i64 code) ∧ (bf 1 = true → v31 = .int .i64 b) ∧ (bf 2 = true → v32 = .agg #[.int .i64 code, .int .i64 b, .int .i64 q, .int .i64 0, .int .i64 0, .bool true, .bool false]) ∧ (bf 3 = true → v33 = .agg #[.int .i64 1, .int .i64 p, .int .i64 0]) ∧ (bf 4 = true → v34 = .tuple #[.agg #[.int .i64 code, .int .i64 b, .int .i64 q, .int .i64 p, .int .i64 0, .bool true, .bool false], .agg #[.int .i64 2, .int .i64 q, .int .i64 r], .int .i64 0]) ∧ (bf 5 = true → v29 = .tuple #[.agg #[.int .i64 code, .int .i64 b, .int .i64 q, .int .i64 p, .int .i64 0, .bool true, .bool false], .agg #[.int .i64 2, .int .i64 q, .int .i64 r], .int .i64 0]) ∧ (bf 6 = true → v35 = .agg #[.int .i64 code, .int .i64 b, .int .i64 q, .int .i64 p, .int .i64 0, .bool true, .bool false]) ∧ (bf 7 = true → v36 = .agg #[.int .i64 2, .int .i64 q, .int .i64 r]) ∧ (bf 8 = true → v37 = .int .i64 0) ∧ (bf 13 = true → v12 = .int .i64 0)) (by kernel_rfl) (by decide +kernel) ?_ ?_ ?_
    · exact ⟨_, _, _, _, _, _, _, _, _, _, _, _, _, _, rfl, Mem.start _ _ _ _ _, (by simp), (by simp), (by simp), (by simp), (by simp), (by simp), (by simp), (by simp), (by simp), (by simp)⟩
    · refine ⟨?_, ?_, ?_, ?_, ?_, ?_, ?_, ?_, ?_, ?_, ?_, ?_, ?_, ?_, trivial⟩
      · intro bf ac wv hfb haf hJ K' hK
        obtain ⟨n1, n2, v30, v31, v32, v33, v34, v29, v35, v36, v37, v10, v11, v12, rfl, hM, g30, g31, g32, g33, g34, g29, g35, g36, g37, g12⟩ := hJ
        replace hK := Lib.hid hK
        replace hM := Lib.hid hM
        replace g30 := Lib.hid g30
        replace g31 := Lib.hid g31
        replace g32 := Lib.hid g32
        replace g33 := Lib.hid g33
        replace g34 := Lib.hid g34
        replace g29 := Lib.hid g29
        replace g35 := Lib.hid g35
        replace g36 := Lib.hid g36
        replace g37 := Lib.hid g37
        replace g12 := Lib.hid g12
        go_simp
        exact hK.out _ _ ⟨n1, n2, .int .i64 code, v31, v32, v33, v34, v29, v35, v36, v37, v10, v11, v12, rfl, hM.out, fun _ => rfl, g31.out, g32.out, g33.out, g34.out, g29.out, g35.out, g36.out, g37.out, g12.out⟩
      · intro bf ac wv hfb haf hJ K' hK
        obtain ⟨n1, n2, v30, v31, v32, v33, v34, v29, v35, v36, v37, v10, v11, v12, rfl, hM, g30, g31, g32, g33, g34, g29, g35, g36, g37, g12⟩ := hJ
        replace hK := Lib.hid hK
        replace hM := Lib.hid hM
        replace g30 := Lib.hid g30
        replace g31 := Lib.hid g31
        replace g32 := Lib.hid g32
        replace g33 := Lib.hid g33
        replace g34 := Lib.hid g34
        replace g29 := Lib.hid g29
        replace g35 := Lib.hid g35
        replace g36 := Lib.hid g36
        replace g37 := Lib.hid g37
        replace g12 := Lib.hid g12
        go_simp
        exact hK.out _ _ ⟨n1, n2, v30, .int .i64 b, v32, v33, v34, v29, v35, v36, v37, v10, v11, v12, rfl, hM.out, g30.out, fun _ => rfl, g32.out, g33.out, g34.out, g29.out, g35.out, g36.out, g37.out, g12.out⟩
      · intro bf ac wv hfb haf hJ K' hK
        obtain ⟨n1, n2, v30, v31, v32, v33, v34, v29, v35, v36, v37, v10, v11, v12, rfl, hM, g30, g31, g32, g33, g34, g29, g35, g36, g37, g12⟩ := hJ
        replace hK := Lib.hid hK
        replace hM := Lib.hid hM
        replace g30 := Lib.hid g30
        replace g31 := Lib.hid g31
        replace g32 := Lib.hid g32
        replace g33 := Lib.hid g33
        replace g34 := Lib.hid g34
        replace g29 := Lib.hid g29
        replace g35 := Lib.hid g35
        replace g36 := Lib.hid g36
        replace g37 := Lib.hid g37
        replace g12 := Lib.hid g12
        simp [Region.binds] at haf
        have hb0 : bf 0 = true := by simp [haf]
        have hb1 : bf 1 = true := by simp [haf]
        obtain rfl := g30.out hb0
        obtain rfl := g31.out hb1
        go_simp
        go_at_call 14
        refine (hub_is code b q _ hq.out).mono ?_
        rintro e w4 ⟨rfl, b4⟩
        exact hK.out _ _ ⟨n1, n2, .int .i64 code, .int .i64 b, .agg #[.int .i64 code, .int .i64 b, .int .i64 q, .int .i64 0, .int .i64 0, .bool true, .bool false], v33, v34, v29, v35, v36, v37, v10, v11, v12, rfl, hM.out.step b4, g30.out, g31.out, fun _ => rfl, g33.out, g34.out, g29.out, g35.out, g36.out, g37.out, g12.out⟩
      · intro bf ac wv hfb haf hJ K' hK
        obtain ⟨n1, n2, v30, v31, v32, v33, v34, v29, v35, v36, v37, v10, v11, v12, rfl, hM, g30, g31, g32, g33, g34, g29, g35, g36, g37, g12⟩ := hJ
        replace hK := Lib.hid hK
        replace hM := Lib.hid hM
        replace g30 := Lib.hid g30
        replace g31 := Lib.hid g31
        replace g32 := Lib.hid g32
        replace g33 := Lib.hid g33
        replace g34 := Lib.hid g34
        replace g29 := Lib.hid g29
        replace g35 := Lib.hid g35
        replace g36 := Lib.hid g36
        replace g37 := Lib.hid g37
        replace g12 := Lib.hid g12
        have hA := KA_6.out.step hM.out.below
        have xA0 := hA.c 0 rfl
        have xA1 := hA.c 1 rfl
        have xA2 := hA.c 2 rfl
        have zA := hA.2.2
        clear hA
        go_simp
        exact hK.out _ _ ⟨n1, n2, v30, v31, v32, .agg #[.int .i64 1, .int .i64 p, .int .i64 0], v34, v29, v35, v36, v37, v10, v11, v12, rfl, hM.out, g30.out, g31.out, g32.out, fun _ => rfl, g34.out, g29.out, g35.out, g36.out, g37.out, g12.out⟩
      · intro bf ac wv hfb haf hJ K' hK
        obtain ⟨n1, n2, v30, v31, v32, v33, v34, v29, v35, v36, v37, v10, v11, v12, rfl, hM, g30, g31, g32, g33, g34, g29, g35, g36, g37, g12⟩ := hJ
        replace hK := Lib.hid hK
        replace hM := Lib.hid hM
        replace g30 := Lib.hid g30
        replace g31 := Lib.hid g31
        replace g32 := Lib.hid g32
        replace g33 := Lib.hid g33
        replace g34 := Lib.hid g34
        replace g29 := Lib.hid g29
        replace g35 := Lib.hid g35
        replace g36 := Lib.hid g36
        replace g37 := Lib.hid g37
        replace g12 := Lib.hid g12
        simp [Region.binds] at haf
        have hb2 : bf 2 = true := by simp [haf]
        have hb3 : bf 3 = true := by simp [haf]
        obtain rfl := g32.out hb2
        obtain rfl := g33.out hb3
        go_simp
        go_at_call 12
        refine (recv_is code b q 0 0 true false 1 p 0 0 _ _ _ hw1.out).mono ?_
        rintro e w5 ⟨rfl, b5⟩
        exact hK.out _ _ ⟨n1, n2, v30, v31, .agg #[.int .i64 code, .int .i64 b, .int .i64 q, .int .i64 0, .int .i64 0, .bool true, .bool false], .agg #[.int .i64 1, .int .i64 p, .int .i64 0], .tuple #[.agg #[.int .i64 code, .int .i64 b, .int .i64 q, .int .i64 p, .int .i64 0, .bool true, .bool false], .agg #[.int .i64 2, .int .i64 q, .int .i64 r], .int .i64 0], v29, v35, v36, v37, v10, v11, v12, rfl, hM.out.step b5, g30.out, g31.out, g32.out, g33.out, fun _ => rfl, g29.out, g35.out, g36.out, g37.out, g12.out⟩
      · intro bf ac wv hfb haf hJ K' hK
        obtain ⟨n1, n2, v30, v31, v32, v33, v34, v29, v35, v36, v37, v10, v11, v12, rfl, hM, g30, g31, g32, g33, g34, g29, g35, g36, g37, g12⟩ := hJ
        replace hK := Lib.hid hK
        replace hM := Lib.hid hM
        replace g30 := Lib.hid g30
        replace g31 := Lib.hid g31
        replace g32 := Lib.hid g32
        replace g33 := Lib.hid g33
        replace g34 := Lib.hid g34
        replace g29 := Lib.hid g29
        replace g35 := Lib.hid g35
        replace g36 := Lib.hid g36
        replace g37 := Lib.hid g37
        replace g12 := Lib.hid g12
        simp [Region.binds] at haf
        have hb4 : bf 4 = true := by simp [haf]
        obtain rfl := g34.out hb4
        go_simp
        exact hK.out _ _ ⟨n1, n2, v30, v31, v32, v33, .tuple #[.agg #[.int .i64 code, .int .i64 b, .int .i64 q, .int .i64 p, .int .i64 0, .bool true, .bool false], .agg #[.int .i64 2, .int .i64 q, .int .i64 r], .int .i64 0], .tuple #[.agg #[.int .i64 code, .int .i64 b, .int .i64 q, .int .i64 p, .int .i64 0, .bool true, .bool false], .agg #[.int .i64 2, .int .i64 q, .int .i64 r], .int .i64 0], v35, v36, v37, v10, v11, v12, rfl, hM.out, g30.out, g31.out, g32.out, g33.out, g34.out, fun _ => rfl, g35.out, g36.out, g37.out, g12.out⟩
      · intro bf ac wv hfb haf hJ K' hK
        obtain ⟨n1, n2, v30, v31, v32, v33, v34, v29, v35, v36, v37, v10, v11, v12, rfl, hM, g30, g31, g32, g33, g34, g29, g35, g36, g37, g12⟩ := hJ
        replace hK := Lib.hid hK
        replace hM := Lib.hid hM
        replace g30 := Lib.hid g30
        replace g31 := Lib.hid g31
        replace g32 := Lib.hid g32
        replace g33 := Lib.hid g33
        replace g34 := Lib.hid g34
        replace g29 := Lib.hid g29
        replace g35 := Lib.hid g35
        replace g36 := Lib.hid g36
        replace g37 := Lib.hid g37
        replace g12 := Lib.hid g12
        simp [Region.binds] at haf
        have hb5 : bf 5 = true := by simp [haf]
        obtain rfl := g29.out hb5
        go_simp
        exact hK.out _ _ ⟨n1, n2, v30, v31, v32, v33, v34, .tuple #[.agg #[.int .i64 code, .int .i64 b, .int .i64 q, .int .i64 p, .int .i64 0, .bool true, .bool false], .agg #[.int .i64 2, .int .i64 q, .int .i64 r], .int .i64 0], .agg #[.int .i64 code, .int .i64 b, .int .i64 q, .int .i64 p, .int .i64 0, .bool true, .bool false], v36, v37, v10, v11, v12, rfl, hM.out, g30.out, g31.out, g32.out, g33.out, g34.out, g29.out, fun _ => rfl, g36.out, g37.out, g12.out⟩
      · intro bf ac wv hfb haf hJ K' hK
        obtain ⟨n1, n2, v30, v31, v32, v33, v34, v29, v35, v36, v37, v10, v11, v12, rfl, hM, g30, g31, g32, g33, g34, g29, g35, g36, g37, g12⟩ := hJ
        replace hK := Lib.hid hK
        replace hM := Lib.hid hM
        replace g30 := Lib.hid g30
        replace g31 := Lib.hid g31
        replace g32 := Lib.hid g32
        replace g33 := Lib.hid g33
        replace g34 := Lib.hid g34
        replace g29 := Lib.hid g29
        replace g35 := Lib.hid g35
        replace g36 := Lib.hid g36
        replace g37 := Lib.hid g37
        replace g12 := Lib.hid g12
        simp [Region.binds] at haf
        have hb5 : bf 5 = true := by simp [haf]
        obtain rfl := g29.out hb5
        go_simp
        exact hK.out _ _ ⟨n1, n2, v30, v31, v32, v33, v34, .tuple #[.agg #[.int .i64 code, .int .i64 b, .int .i64 q, .int .i64 p, .int .i64 0, .bool true, .bool false], .agg #[.int .i64 2, .int .i64 q, .int .i64 r], .int .i64 0], v35, .agg #[.int .i64 2, .int .i64 q, .int .i64 r], v37, v10, v11, v12, rfl, hM.out, g30.out, g31.out, g32.out, g33.out, g34.out, g29.out, g35.out, fun _ => rfl, g37.out, g12.out⟩
      · intro bf ac wv hfb haf hJ K' hK
        obtain ⟨n1, n2, v30, v31, v32, v33, v34, v29, v35, v36, v37, v10, v11, v12, rfl, hM, g30, g31, g32, g33, g34, g29, g35, g36, g37, g12⟩ := hJ
        replace hK := Lib.hid hK
        replace hM := Lib.hid hM
        replace g30 := Lib.hid g30
        replace g31 := Lib.hid g31
        replace g32 := Lib.hid g32
        replace g33 := Lib.hid g33
        replace g34 := Lib.hid g34
        replace g29 := Lib.hid g29
        replace g35 := Lib.hid g35
        replace g36 := Lib.hid g36
        replace g37 := Lib.hid g37
        replace g12 := Lib.hid g12
        simp [Region.binds] at haf
        have hb5 : bf 5 = true := by simp [haf]
        obtain rfl := g29.out hb5
        go_simp
        exact hK.out _ _ ⟨n1, n2, v30, v31, v32, v33, v34, .tuple #[.agg #[.int .i64 code, .int .i64 b, .int .i64 q, .int .i64 p, .int .i64 0, .bool true, .bool false], .agg #[.int .i64 2, .int .i64 q, .int .i64 r], .int .i64 0], v35, v36, .int .i64 0, v10, v11, v12, rfl, hM.out, g30.out, g31.out, g32.out, g33.out, g34.out, g29.out, g35.out, g36.out, fun _ => rfl, g12.out⟩
      · intro bf ac wv hfb haf hJ K' hK
        obtain ⟨n1, n2, v30, v31, v32, v33, v34, v29, v35, v36, v37, v10, v11, v12, rfl, hM, g30, g31, g32, g33, g34, g29, g35, g36, g37, g12⟩ := hJ
        replace hK := Lib.hid hK
        replace hM := Lib.hid hM
        replace g30 := Lib.hid g30
        replace g31 := Lib.hid g31
        replace g32 := Lib.hid g32
        replace g33 := Lib.hid g33
        replace g34 := Lib.hid g34
        replace g29 := Lib.hid g29
        replace g35 := Lib.hid g35
        replace g36 := Lib.hid g36
        replace g37 := Lib.hid g37
        replace g12 := Lib.hid g12
        obtain ⟨m2, hM2⟩ := hM.out.alloc1 hfb
        have hM2 := Lib.hid hM2
        clear hM
        go_simp
        exact hK.out _ _ ⟨_, m2, v30, v31, v32, v33, v34, v29, v35, v36, v37, _, v11, v12, rfl, hM2.out, g30.out, g31.out, g32.out, g33.out, g34.out, g29.out, g35.out, g36.out, g37.out, g12.out⟩
      · intro bf ac wv hfb haf hJ K' hK
        obtain ⟨n1, n2, v30, v31, v32, v33, v34, v29, v35, v36, v37, v10, v11, v12, rfl, hM, g30, g31, g32, g33, g34, g29, g35, g36, g37, g12⟩ := hJ
        replace hK := Lib.hid hK
        replace hM := Lib.hid hM
        replace g30 := Lib.hid g30
        replace g31 := Lib.hid g31
        replace g32 := Lib.hid g32
        replace g33 := Lib.hid g33
        replace g34 := Lib.hid g34
        replace g29 := Lib.hid g29
        replace g35 := Lib.hid g35
        replace g36 := Lib.hid g36
        replace g37 := Lib.hid g37
        replace g12 := Lib.hid g12
        obtain ⟨m1, hM2⟩ := hM.out.alloc2 hfb
        have hM2 := Lib.hid hM2
        clear hM
        go_simp
        exact hK.out _ _ ⟨m1, _, v30, v31, v32, v33, v34, v29, v35, v36, v37, v10, _, v12, rfl, hM2.out, g30.out, g31.out, g32.out, g33.out, g34.out, g29.out, g35.out, g36.out, g37.out, g12.out⟩
      · intro bf ac wv hfb haf hJ K' hK
        obtain ⟨n1, n2, v30, v31, v32, v33, v34, v29, v35, v36, v37, v10, v11, v12, rfl, hM, g30, g31, g32, g33, g34, g29, g35, g36, g37, g12⟩ := hJ
        replace hK := Lib.hid hK
        replace hM := Lib.hid hM
        replace g30 := Lib.hid g30
        replace g31 := Lib.hid g31
        replace g32 := Lib.hid g32
        replace g33 := Lib.hid g33
        replace g34 := Lib.hid g34
        replace g29 := Lib.hid g29
        replace g35 := Lib.hid g35
        replace g36 := Lib.hid g36
        replace g37 := Lib.hid g37
        replace g12 := Lib.hid g12
        simp [Region.binds] at haf
        have hb6 : bf 6 = true := by simp [haf]
        have hb9 : bf 9 = true := by simp [haf]
        obtain rfl := g35.out hb6
        obtain ⟨rfl, hZ⟩ := hM.out.zero1 hb9 hfb
        have hZ := Lib.hid hZ
        unfold ptr at hM hK ⊢
        have xZ0 := hZ.out.c 0 rfl
        have yZ0 := hZ.out.f 0 (by simp)
        have xZ1 := hZ.out.c 1 rfl
        have yZ1 := hZ.out.f 1 (by simp)
        have xZ2 := hZ.out.c 2 rfl
        have yZ2 := hZ.out.f 2 (by simp)
        have xZ3 := hZ.out.c 3 rfl
        have yZ3 := hZ.out.f 3 (by simp)
        have xZ4 := hZ.out.c 4 rfl
        have yZ4 := hZ.out.f 4 (by simp)
        have xZ5 := hZ.out.c 5 rfl
        have yZ5 := hZ.out.f 5 (by simp)
        have xZ6 := hZ.out.c 6 rfl
        have yZ6 := hZ.out.f 6 (by simp)
        have zZ := hZ.out.2.2
        go_simp
        have hM3 := hM.out; rw [hb9] at hM3
        have hM4 := hM3.store1 (Turned.all7 hZ.out)
        exact hK.out _ _ ⟨n1, n2, v30, v31, v32, v33, v34, v29, .agg #[.int .i64 code, .int .i64 b, .int .i64 q, .int .i64 p, .int .i64 0, .bool true, .bool false], v36, v37, .pointer (some ⟨n1, 0, none⟩), v11, v12, rfl, (by rw [show up bf 11 9 = true from hb9]; exact hM4), g30.out, g31.out, g32.out, g33.out, g34.out, g29.out, g35.out, g36.out, g37.out, g12.out⟩
      · intro bf ac wv hfb haf hJ K' hK
        obtain ⟨n1, n2, v30, v31, v32, v33, v34, v29, v35, v36, v37, v10, v11, v12, rfl, hM, g30, g31, g32, g33, g34, g29, g35, g36, g37, g12⟩ := hJ
        replace hK := Lib.hid hK
        replace hM := Lib.hid hM
        replace g30 := Lib.hid g30
        replace g31 := Lib.hid g31
        replace g32 := Lib.hid g32
        replace g33 := Lib.hid g33
        replace g34 := Lib.hid g34
        replace g29 := Lib.hid g29
        replace g35 := Lib.hid g35
        replace g36 := Lib.hid g36
        replace g37 := Lib.hid g37
        replace g12 := Lib.hid g12
        simp [Region.binds] at haf
        have hb7 : bf 7 = true := by simp [haf]
        have hb10 : bf 10 = true := by simp [haf]
        obtain rfl := g36.out hb7
        obtain ⟨rfl, hZ⟩ := hM.out.zero2 hb10 hfb
        have hZ := Lib.hid hZ
        unfold ptr at hM hK ⊢
        have xZ0 := hZ.out.c 0 rfl
        have yZ0 := hZ.out.f 0 (by simp)
        have xZ1 := hZ.out.c 1 rfl
        have yZ1 := hZ.out.f 1 (by simp)
        have xZ2 := hZ.out.c 2 rfl
        have yZ2 := hZ.out.f 2 (by simp)
        have zZ := hZ.out.2.2
        go_simp
        have hM3 := hM.out; rw [hb10] at hM3
        have hM4 := hM3.store2 (Turned.all3 hZ.out)
        exact hK.out _ _ ⟨n1, n2, v30, v31, v32, v33, v34, v29, v35, .agg #[.int .i64 2, .int .i64 q, .int .i64 r], v37, v10, .pointer (some ⟨n2, 0, none⟩), v12, rfl, (by rw [show up bf 12 10 = true from hb10]; exact hM4), g30.out, g31.out, g32.out, g33.out, g34.out, g29.out, g35.out, g36.out, g37.out, g12.out⟩
      · intro bf ac wv hfb haf hJ K' hK
        obtain ⟨n1, n2, v30, v31, v32, v33, v34, v29, v35, v36, v37, v10, v11, v12, rfl, hM, g30, g31, g32, g33, g34, g29, g35, g36, g37, g12⟩ := hJ
        replace hK := Lib.hid hK
        replace hM := Lib.hid hM
        replace g30 := Lib.hid g30
        replace g31 := Lib.hid g31
        replace g32 := Lib.hid g32
        replace g33 := Lib.hid g33
        replace g34 := Lib.hid g34
        replace g29 := Lib.hid g29
        replace g35 := Lib.hid g35
        replace g36 := Lib.hid g36
        replace g37 := Lib.hid g37
        replace g12 := Lib.hid g12
        simp [Region.binds] at haf
        have hb8 : bf 8 = true := by simp [haf]
        obtain rfl := g37.out hb8
        go_simp
        exact hK.out _ _ ⟨n1, n2, v30, v31, v32, v33, v34, v29, v35, v36, .int .i64 0, v10, v11, .int .i64 0, rfl, hM.out, g30.out, g31.out, g32.out, g33.out, g34.out, g29.out, g35.out, g36.out, g37.out, fun _ => rfl⟩
    · intro bf ac wv hall hJ
      obtain ⟨n1, n2, v30, v31, v32, v33, v34, v29, v35, v36, v37, v10, v11, v12, rfl, hM, g30, g31, g32, g33, g34, g29, g35, g36, g37, g12⟩ := hJ
      obtain rfl := g12 (hall 13 (by decide))
      rw [hall 9 (by decide), hall 10 (by decide), hall 11 (by decide), hall 12 (by decide)] at hM
      obtain ⟨rfl, h1⟩ := hM.c1 rfl
      obtain ⟨rfl, h2⟩ := hM.c2 rfl
      have hB := hM.below
      clear g30 g31 g32 g33 g34 g29 g35 g36 g37 g12 hM hall
      unfold ptr
      go_wp2
      go_meet
      exact ⟨n1, n2, rfl, rfl, rfl, Lib.hid h1, Lib.hid h2, hB⟩
  case rest =>
    obtain ⟨n1, n2, rfl, rfl, rfl, hJ, hH, hB⟩ := hcut
    have KD_8 := Lib.hid (KD_5.out.step hB)
    clear KD_5
    have KA_9 := Lib.hid (KA_6.out.step hB)
    clear KA_6
    have HB10 := Lib.hid (keep2 hB HB7.out)
    clear HB7 hB
    have xD0 : wc.cell? ⟨u2.heap.size, 0, none⟩ = some (.int .i64 code) := KD_8.out.c 0 rfl
    have xD1 : wc.cell? ⟨u2.heap.size, 1, none⟩ = some (.int .i64 a) := KD_8.out.c 1 rfl
    have xD2 : wc.cell? ⟨u2.heap.size, 2, none⟩ = some (.int .i64 p) := KD_8.out.c 2 rfl
    have xD3 : wc.cell? ⟨u2.heap.size, 3, none⟩ = some (.int .i64 0) := KD_8.out.c 3 rfl
    have xD4 : wc.cell? ⟨u2.heap.size, 4, none⟩ = some (.int .i64 0) := KD_8.out.c 4 rfl
    have xD5 : wc.cell? ⟨u2.heap.size, 5, none⟩ = some (.bool false) := KD_8.out.c 5 rfl
    have xD6 : wc.cell? ⟨u2.heap.size, 6, none⟩ = some (.bool false) := KD_8.out.c 6 rfl
    have zD : u2.heap.size < wc.heap.size := KD_8.out.2.2
    have z2D : u2.heap.size < wc.heap.size + 1 := by omega
    have xC0 : wc.cell? ⟨n2, 0, none⟩ = some (.int .i64 2) := hH.out.c 0 rfl
    have xC1 : wc.cell? ⟨n2, 1, none⟩ = some (.int .i64 q) := hH.out.c 1 rfl
    have xC2 : wc.cell? ⟨n2, 2, none⟩ = some (.int .i64 r) := hH.out.c 2 rfl
    have zC : n2 < wc.heap.size := hH.out.2.2
    have z2C : n2 < wc.heap.size + 1 := by omega
    go_wp2_with fail
    refine (recv_is code a p 0 0 false false 2 q r 0 _ _ _ hw2.out).mono ?_
    rintro e u3 ⟨rfl, b3⟩
    clear xD0 xD1 xD2 xD3 xD4 xD5 xD6 zD z2D xC0 xC1 xC2 zC z2C
    have KD_11 := Lib.hid (KD_8.out.step b3)
    clear KD_8
    have KA_12 := Lib.hid (KA_9.out.step b3)
    clear KA_9
    have KB_13 := Lib.hid (hJ.out.step b3)
    clear hJ
    have KC_14 := Lib.hid (hH.out.step b3)
    clear hH
    have HB15 := Lib.hid (keep2 b3 HB10.out)
    clear HB10 b3
    have KD_16 := Lib.hid (KD_11.out.alloc (.cells #[.int .i64 code, .int .i64 a, .int .i64 p, .int .i64 q, .int .i64 K, .bool false, .bool true] 23))
    clear KD_11
    have KA_17 := Lib.hid (KA_12.out.alloc (.cells #[.int .i64 code, .int .i64 a, .int .i64 p, .int .i64 q, .int .i64 K, .bool false, .bool true] 23))
    clear KA_12
    have KB_18 := Lib.hid (KB_13.out.alloc (.cells #[.int .i64 code, .int .i64 a, .int .i64 p, .int .i64 q, .int .i64 K, .bool false, .bool true] 23))
    clear KB_13
    have KC_19 := Lib.hid (KC_14.out.alloc (.cells #[.int .i64 code, .int .i64 a, .int .i64 p, .int .i64 q, .int .i64 K, .bool false, .bool true] 23))
    clear KC_14
    have HB20 : Hid (Below w.heap.size w (u3.alloc (.cells #[.int .i64 code, .int .i64 a, .int .i64 p, .int .i64 q, .int .i64 K, .bool false, .bool true] 23))) := HB15.out.alloc HB15.out.size _
    clear HB15
    have KD_21 := Lib.hid (KD_16.out.alloc (.cells #[.int .i64 3, .int .i64 0, .int .i64 t] 25))
    clear KD_16
    have KA_22 := Lib.hid (KA_17.out.alloc (.cells #[.int .i64 3, .int .i64 0, .int .i64 t] 25))
    clear KA_17
    have KB_23 := Lib.hid (KB_18.out.alloc (.cells #[.int .i64 3, .int .i64 0, .int .i64 t] 25))
    clear KB_18
    have KC_24 := Lib.hid (KC_19.out.alloc (.cells #[.int .i64 3, .int .i64 0, .int .i64 t] 25))
    clear KC_19
    have KF_25 := Lib.hid (Cs.new (u3.alloc (.cells #[.int .i64 code, .int .i64 a, .int .i64 p, .int .i64 q, .int .i64 K, .bool false, .bool true] 23)) (u3.heap.size + 1) #[.int .i64 3, .int .i64 0, .int .i64 t] 25 (by simp))
    have HB26 : Hid (Below w.heap.size w ((u3.alloc (.cells #[.int .i64 code, .int .i64 a, .int .i64 p, .int .i64 q, .int .i64 K, .bool false, .bool true] 23)).alloc (.cells #[.int .i64 3, .int .i64 0, .int .i64 t] 25))) := HB20.out.alloc HB20.out.size _
    clear HB20
    have xB0 : ((u3.alloc (.cells #[.int .i64 code, .int .i64 a, .int .i64 p, .int .i64 q, .int .i64 K, .bool false, .bool true] 23)).alloc (.cells #[.int .i64 3, .int .i64 0, .int .i64 t] 25)).cell? ⟨n1, 0, none⟩ = some (.int .i64 code) := KB_23.out.c 0 rfl
    have xB1 : ((u3.alloc (.cells #[.int .i64 code, .int .i64 a, .int .i64 p, .int .i64 q, .int .i64 K, .bool false, .bool true] 23)).alloc (.cells #[.int .i64 3, .int .i64 0, .int .i64 t] 25)).cell? ⟨n1, 1, none⟩ = some (.int .i64 b) := KB_23.out.c 1 rfl
    have xB2 : ((u3.alloc (.cells #[.int .i64 code, .int .i64 a, .int .i64 p, .int .i64 q, .int .i64 K, .bool false, .bool true] 23)).alloc (.cells #[.int .i64 3, .int .i64 0, .int .i64 t] 25)).cell? ⟨n1, 2, none⟩ = some (.int .i64 q) := KB_23.out.c 2 rfl
    have xB3 : ((u3.alloc (.cells #[.int .i64 code, .int .i64 a, .int .i64 p, .int .i64 q, .int .i64 K, .bool false, .bool true] 23)).alloc (.cells #[.int .i64 3, .int .i64 0, .int .i64 t] 25)).cell? ⟨n1, 3, none⟩ = some (.int .i64 p) := KB_23.out.c 3 rfl
    have xB4 : ((u3.alloc (.cells #[.int .i64 code, .int .i64 a, .int .i64 p, .int .i64 q, .int .i64 K, .bool false, .bool true] 23)).alloc (.cells #[.int .i64 3, .int .i64 0, .int .i64 t] 25)).cell? ⟨n1, 4, none⟩ = some (.int .i64 0) := KB_23.out.c 4 rfl
    have xB5 : ((u3.alloc (.cells #[.int .i64 code, .int .i64 a, .int .i64 p, .int .i64 q, .int .i64 K, .bool false, .bool true] 23)).alloc (.cells #[.int .i64 3, .int .i64 0, .int .i64 t] 25)).cell? ⟨n1, 5, none⟩ = some (.bool true) := KB_23.out.c 5 rfl
    have xB6 : ((u3.alloc (.cells #[.int .i64 code, .int .i64 a, .int .i64 p, .int .i64 q, .int .i64 K, .bool false, .bool true] 23)).alloc (.cells #[.int .i64 3, .int .i64 0, .int .i64 t] 25)).cell? ⟨n1, 6, none⟩ = some (.bool false) := KB_23.out.c 6 rfl
    have zB : n1 < ((u3.alloc (.cells #[.int .i64 code, .int .i64 a, .int .i64 p, .int .i64 q, .int .i64 K, .bool false, .bool true] 23)).alloc (.cells #[.int .i64 3, .int .i64 0, .int .i64 t] 25)).heap.size := KB_23.out.2.2
    have z2B : n1 < ((u3.alloc (.cells #[.int .i64 code, .int .i64 a, .int .i64 p, .int .i64 q, .int .i64 K, .bool false, .bool true] 23)).alloc (.cells #[.int .i64 3, .int .i64 0, .int .i64 t] 25)).heap.size + 1 := by omega
    have xC0 : ((u3.alloc (.cells #[.int .i64 code, .int .i64 a, .int .i64 p, .int .i64 q, .int .i64 K, .bool false, .bool true] 23)).alloc (.cells #[.int .i64 3, .int .i64 0, .int .i64 t] 25)).cell? ⟨n2, 0, none⟩ = some (.int .i64 2) := KC_24.out.c 0 rfl
    have xC1 : ((u3.alloc (.cells #[.int .i64 code, .int .i64 a, .int .i64 p, .int .i64 q, .int .i64 K, .bool false, .bool true] 23)).alloc (.cells #[.int .i64 3, .int .i64 0, .int .i64 t] 25)).cell? ⟨n2, 1, none⟩ = some (.int .i64 q) := KC_24.out.c 1 rfl
    have xC2 : ((u3.alloc (.cells #[.int .i64 code, .int .i64 a, .int .i64 p, .int .i64 q, .int .i64 K, .bool false, .bool true] 23)).alloc (.cells #[.int .i64 3, .int .i64 0, .int .i64 t] 25)).cell? ⟨n2, 2, none⟩ = some (.int .i64 r) := KC_24.out.c 2 rfl
    have zC : n2 < ((u3.alloc (.cells #[.int .i64 code, .int .i64 a, .int .i64 p, .int .i64 q, .int .i64 K, .bool false, .bool true] 23)).alloc (.cells #[.int .i64 3, .int .i64 0, .int .i64 t] 25)).heap.size := KC_24.out.2.2
    have z2C : n2 < ((u3.alloc (.cells #[.int .i64 code, .int .i64 a, .int .i64 p, .int .i64 q, .int .i64 K, .bool false, .bool true] 23)).alloc (.cells #[.int .i64 3, .int .i64 0, .int .i64 t] 25)).heap.size + 1 := by omega
    go_wp2_with fail
    refine (recv_is code b q p 0 true false 3 0 r 17 _ _ _ hw3.out).mono ?_
    rintro e u4 ⟨rfl, b4⟩
    clear xB0 xB1 xB2 xB3 xB4 xB5 xB6 zB z2B xC0 xC1 xC2 zC z2C
    have KD_27 := Lib.hid (KD_21.out.step b4)
    clear KD_21
    have KA_28 := Lib.hid (KA_22.out.step b4)
    clear KA_22
    have KB_29 := Lib.hid (KB_23.out.step b4)
    clear KB_23
    have KC_30 := Lib.hid (KC_24.out.step b4)
    clear KC_24
    have KF_31 := Lib.hid (KF_25.out.step b4)
    clear KF_25
    have HB32 := Lib.hid (keep2 b4 HB26.out)
    clear HB26 b4
    have KD_33 := Lib.hid (KD_27.out.alloc (.cells #[.int .i64 0, .int .i64 0, .int .i64 0, .int .i64 0, .int .i64 0, .bool false, .bool false] 23))
    clear KD_27
    have KA_34 := Lib.hid (KA_28.out.alloc (.cells #[.int .i64 0, .int .i64 0, .int .i64 0, .int .i64 0, .int .i64 0, .bool false, .bool false] 23))
    clear KA_28
    have KB_35 := Lib.hid (KB_29.out.alloc (.cells #[.int .i64 0, .int .i64 0, .int .i64 0, .int .i64 0, .int .i64 0, .bool false, .bool false] 23))
    clear KB_29
    have KC_36 := Lib.hid (KC_30.out.alloc (.cells #[.int .i64 0, .int .i64 0, .int .i64 0, .int .i64 0, .int .i64 0, .bool false, .bool false] 23))
    clear KC_30
    have KF_37 := Lib.hid (KF_31.out.alloc (.cells #[.int .i64 0, .int .i64 0, .int .i64 0, .int .i64 0, .int .i64 0, .bool false, .bool false] 23))
    clear KF_31
    have HB38 : Hid (Below w.heap.size w (u4.alloc (.cells #[.int .i64 0, .int .i64 0, .int .i64 0, .int .i64 0, .int .i64 0, .bool false, .bool false] 23))) := HB32.out.alloc HB32.out.size _
    clear HB32
    have KD_39 := Lib.hid (KD_33.out.alloc (.cells #[.int .i64 0, .int .i64 0, .int .i64 0] 25))
    clear KD_33
    have KA_40 := Lib.hid (KA_34.out.alloc (.cells #[.int .i64 0, .int .i64 0, .int .i64 0] 25))
    clear KA_34
    have KB_41 := Lib.hid (KB_35.out.alloc (.cells #[.int .i64 0, .int .i64 0, .int .i64 0] 25))
    clear KB_35
    have KC_42 := Lib.hid (KC_36.out.alloc (.cells #[.int .i64 0, .int .i64 0, .int .i64 0] 25))
    clear KC_36
    have KF_43 := Lib.hid (KF_37.out.alloc (.cells #[.int .i64 0, .int .i64 0, .int .i64 0] 25))
    clear KF_37
    have HB44 : Hid (Below w.heap.size w ((u4.alloc (.cells #[.int .i64 0, .int .i64 0, .int .i64 0, .int .i64 0, .int .i64 0, .bool false, .bool false] 23)).alloc (.cells #[.int .i64 0, .int .i64 0, .int .i64 0] 25))) := HB38.out.alloc HB38.out.size _
    clear HB38
    have xD0 : ((u4.alloc (.cells #[.int .i64 0, .int .i64 0, .int .i64 0, .int .i64 0, .int .i64 0, .bool false, .bool false] 23)).alloc (.cells #[.int .i64 0, .int .i64 0, .int .i64 0] 25)).cell? ⟨u2.heap.size, 0, none⟩ = some (.int .i64 code) := KD_39.out.c 0 rfl
    have xD1 : ((u4.alloc (.cells #[.int .i64 0, .int .i64 0, .int .i64 0, .int .i64 0, .int .i64 0, .bool false, .bool false] 23)).alloc (.cells #[.int .i64 0, .int .i64 0, .int .i64 0] 25)).cell? ⟨u2.heap.size, 1, none⟩ = some (.int .i64 a) := KD_39.out.c 1 rfl
    have xD2 : ((u4.alloc (.cells #[.int .i64 0, .int .i64 0, .int .i64 0, .int .i64 0, .int .i64 0, .bool false, .bool false] 23)).alloc (.cells #[.int .i64 0, .int .i64 0, .int .i64 0] 25)).cell? ⟨u2.heap.size, 2, none⟩ = some (.int .i64 p) := KD_39.out.c 2 rfl
    have xD3 : ((u4.alloc (.cells #[.int .i64 0, .int .i64 0, .int .i64 0, .int .i64 0, .int .i64 0, .bool false, .bool false] 23)).alloc (.cells #[.int .i64 0, .int .i64 0, .int .i64 0] 25)).cell? ⟨u2.heap.size, 3, none⟩ = some (.int .i64 0) := KD_39.out.c 3 rfl
    have xD4 : ((u4.alloc (.cells #[.int .i64 0, .int .i64 0, .int .i64 0, .int .i64 0, .int .i64 0, .bool false, .bool false] 23)).alloc (.cells #[.int .i64 0, .int .i64 0, .int .i64 0] 25)).cell? ⟨u2.heap.size, 4, none⟩ = some (.int .i64 0) := KD_39.out.c 4 rfl
    have xD5 : ((u4.alloc (.cells #[.int .i64 0, .int .i64 0, .int .i64 0, .int .i64 0, .int .i64 0, .bool false, .bool false] 23)).alloc (.cells #[.int .i64 0, .int .i64 0, .int .i64 0] 25)).cell? ⟨u2.heap.size, 5, none⟩ = some (.bool false) := KD_39.out.c 5 rfl
    have xD6 : ((u4.alloc (.cells #[.int .i64 0, .int .i64 0, .int .i64 0, .int .i64 0, .int .i64 0, .bool false, .bool false] 23)).alloc (.cells #[.int .i64 0, .int .i64 0, .int .i64 0] 25)).cell? ⟨u2.heap.size, 6, none⟩ = some (.bool false) := KD_39.out.c 6 rfl
    have zD : u2.heap.size < ((u4.alloc (.cells #[.int .i64 0, .int .i64 0, .int .i64 0, .int .i64 0, .int .i64 0, .bool false, .bool false] 23)).alloc (.cells #[.int .i64 0, .int .i64 0, .int .i64 0] 25)).heap.size := KD_39.out.2.2
    have z2D : u2.heap.size < ((u4.alloc (.cells #[.int .i64 0, .int .i64 0, .int .i64 0, .int .i64 0, .int .i64 0, .bool false, .bool false] 23)).alloc (.cells #[.int .i64 0, .int .i64 0, .int .i64 0] 25)).heap.size + 1 := by omega
    have xC0 : ((u4.alloc (.cells #[.int .i64 0, .int .i64 0, .int .i64 0, .int .i64 0, .int .i64 0, .bool false, .bool false] 23)).alloc (.cells #[.int .i64 0, .int .i64 0, .int .i64 0] 25)).cell? ⟨n2, 0, none⟩ = some (.int .i64 2) := KC_42.out.c 0 rfl
    have xC1 : ((u4.alloc (.cells #[.int .i64 0, .int .i64 0, .int .i64 0, .int .i64 0, .int .i64 0, .bool false, .bool false] 23)).alloc (.cells #[.int .i64 0, .int .i64 0, .int .i64 0] 25)).cell? ⟨n2, 1, none⟩ = some (.int .i64 q) := KC_42.out.c 1 rfl
    have xC2 : ((u4.alloc (.cells #[.int .i64 0, .int .i64 0, .int .i64 0, .int .i64 0, .int .i64 0, .bool false, .bool false] 23)).alloc (.cells #[.int .i64 0, .int .i64 0, .int .i64 0] 25)).cell? ⟨n2, 2, none⟩ = some (.int .i64 r) := KC_42.out.c 2 rfl
    have zC : n2 < ((u4.alloc (.cells #[.int .i64 0, .int .i64 0, .int .i64 0, .int .i64 0, .int .i64 0, .bool false, .bool false] 23)).alloc (.cells #[.int .i64 0, .int .i64 0, .int .i64 0] 25)).heap.size := KC_42.out.2.2
    have z2C : n2 < ((u4.alloc (.cells #[.int .i64 0, .int .i64 0, .int .i64 0, .int .i64 0, .int .i64 0, .bool false, .bool false] 23)).alloc (.cells #[.int .i64 0, .int .i64 0, .int .i64 0] 25)).heap.size + 1 := by omega
    have xF0 : ((u4.alloc (.cells #[.int .i64 0, .int .i64 0, .int .i64 0, .int .i64 0, .int .i64 0, .bool false, .bool false] 23)).alloc (.cells #[.int .i64 0, .int .i64 0, .int .i64 0] 25)).cell? ⟨u3.heap.size + 1, 0, none⟩ = some (.int .i64 3) := KF_43.out.c 0 rfl
    have xF1 : ((u4.alloc (.cells #[.int .i64 0, .int .i64 0, .int .i64 0, .int .i64 0, .int .i64 0, .bool false, .bool false] 23)).alloc (.cells #[.int .i64 0, .int .i64 0, .int .i64 0] 25)).cell? ⟨u3.heap.size + 1, 1, none⟩ = some (.int .i64 0) := KF_43.out.c 1 rfl
    have xF2 : ((u4.alloc (.cells #[.int .i64 0, .int .i64 0, .int .i64 0, .int .i64 0, .int .i64 0, .bool false, .bool false] 23)).alloc (.cells #[.int .i64 0, .int .i64 0, .int .i64 0] 25)).cell? ⟨u3.heap.size + 1, 2, none⟩ = some (.int .i64 t) := KF_43.out.c 2 rfl
    have zF : u3.heap.size + 1 < ((u4.alloc (.cells #[.int .i64 0, .int .i64 0, .int .i64 0, .int .i64 0, .int .i64 0, .bool false, .bool false] 23)).alloc (.cells #[.int .i64 0, .int .i64 0, .int .i64 0] 25)).heap.size := KF_43.out.2.2
    have z2F : u3.heap.size + 1 < ((u4.alloc (.cells #[.int .i64 0, .int .i64 0, .int .i64 0, .int .i64 0, .int .i64 0, .bool false, .bool false] 23)).alloc (.cells #[.int .i64 0, .int .i64 0, .int .i64 0] 25)).heap.size + 1 := by omega
    go_wp2_with fail
    refine (recv_is code a p 0 0 false false 2 q t 17 _ _ _ hw4.out).mono ?_
    rintro e u5 ⟨rfl, b5⟩
    clear xD0 xD1 xD2 xD3 xD4 xD5 xD6 zD z2D xC0 xC1 xC2 zC z2C xF0 xF1 xF2 zF z2F
    have KD_45 := Lib.hid (KD_39.out.step b5)
    clear KD_39
    have KA_46 := Lib.hid (KA_40.out.step b5)
    clear KA_40
    have KB_47 := Lib.hid (KB_41.out.step b5)
    clear KB_41
    have KC_48 := Lib.hid (KC_42.out.step b5)
    clear KC_42
    have KF_49 := Lib.hid (KF_43.out.step b5)
    clear KF_43
    have HB50 := Lib.hid (keep2 b5 HB44.out)
    clear HB44 b5
    have KD_51 := Lib.hid (KD_45.out.alloc (.cells #[.int .i64 0, .int .i64 0, .int .i64 0, .int .i64 0, .int .i64 0, .bool false, .bool false] 23))
    clear KD_45
    have KA_52 := Lib.hid (KA_46.out.alloc (.cells #[.int .i64 0, .int .i64 0, .int .i64 0, .int .i64 0, .int .i64 0, .bool false, .bool false] 23))
    clear KA_46
    have KB_53 := Lib.hid (KB_47.out.alloc (.cells #[.int .i64 0, .int .i64 0, .int .i64 0, .int .i64 0, .int .i64 0, .bool false, .bool false] 23))
    clear KB_47
    have KC_54 := Lib.hid (KC_48.out.alloc (.cells #[.int .i64 0, .int .i64 0, .int .i64 0, .int .i64 0, .int .i64 0, .bool false, .bool false] 23))
    clear KC_48
    have KF_55 := Lib.hid (KF_49.out.alloc (.cells #[.int .i64 0, .int .i64 0, .int .i64 0, .int .i64 0, .int .i64 0, .bool false, .bool false] 23))
    clear KF_49
    have HB56 : Hid (Below w.heap.size w (u5.alloc (.cells #[.int .i64 0, .int .i64 0, .int .i64 0, .int .i64 0, .int .i64 0, .bool false, .bool false] 23))) := HB50.out.alloc HB50.out.size _
    clear HB50
    have KD_57 := Lib.hid (KD_51.out.alloc (.cells #[.int .i64 0, .int .i64 0, .int .i64 0] 25))
    clear KD_51
    have KA_58 := Lib.hid (KA_52.out.alloc (.cells #[.int .i64 0, .int .i64 0, .int .i64 0] 25))
    clear KA_52
    have KB_59 := Lib.hid (KB_53.out.alloc (.cells #[.int .i64 0, .int .i64 0, .int .i64 0] 25))
    clear KB_53
    have KC_60 := Lib.hid (KC_54.out.alloc (.cells #[.int .i64 0, .int .i64 0, .int .i64 0] 25))
    clear KC_54
    have KF_61 := Lib.hid (KF_55.out.alloc (.cells #[.int .i64 0, .int .i64 0, .int .i64 0] 25))
    clear KF_55
    have HB62 : Hid (Below w.heap.size w ((u5.alloc (.cells #[.int .i64 0, .int .i64 0, .int .i64 0, .int .i64 0, .int .i64 0, .bool false, .bool false] 23)).alloc (.cells #[.int .i64 0, .int .i64 0, .int .i64 0] 25))) := HB56.out.alloc HB56.out.size _
    clear HB56
    go_wp2
    go_ret
    exact ⟨rfl, HB62.out⟩
theorem dir_any (code a b : Int) (w : World) : Calls Try.prog 8 #[.int .i64 code, .int .i64 a, .int .i64 b] w fun e w' => e = .returned (.bool true) ∧ Below w.heap.size w w' := by
  obtain ⟨p, hp⟩ : ∃ p, pw 7 a = p := ⟨_, rfl⟩
  obtain ⟨q, hq⟩ : ∃ q, pw 7 b = q := ⟨_, rfl⟩
  cases ha : accB p with
  | false => exact dir_no code a b p q w hp hq (meetsNo hq ha) (.dev (vld_new hp) rfl rfl (by decide))
  | true =>
    cases hb : accB q with
    | false => exact dir_no2 code a b p q _ w hp hq (meets hq ha) (.agreeNo (vld_new hp) rfl rfl rfl hb)
    | true =>
      exact dir_yes code a b p q (prf code b q p true 1) (prf code a p q false 2) (pw q a) w hp hq (meets hq ha) (.agree (vld_new hp) rfl rfl rfl hb (by rw [prf_meet code hp hq]; simp))
        (.finBad (vld_met (by simp [hq]) ha) rfl rfl rfl (acc_ne ha) (prf_mark code b q p true).1) (.agreeBad (vld_new hp) rfl rfl rfl hb (prf_mark code a p q false).2)
set_option maxRecDepth 100000 in
set_option maxHeartbeats 4000000 in
theorem codes_no (code other a b p q : Int) (w : World) (hp : pw 7 a = p) (hq : pw 7 b = q) (hw1 : RW other b q 0 0 true false 1 p 0 1 zj zh) : Calls Try.prog 5 #[.int .i64 code, .int .i64 other, .int .i64 a, .int .i64 b] w fun e w' => e = .returned (.bool true) ∧ Below w.heap.size w w' := by
  replace hp := Lib.hid hp
  replace hq := Lib.hid hq
  replace hw1 := Lib.hid hw1
  have HB0 := Lib.hid (Below.refl w.heap.size w)
  go_enter Try.func5, Try.ntmps5
  go_wp2_with fail
  refine (head_any _).mono ?_
  rintro e u1 ⟨rfl, b1⟩
  have HB1 := Lib.hid (keep2 b1 HB0.out)
  clear HB0 b1
  go_wp2_with fail
  refine (device_is code a p _ hp.out).mono ?_
  rintro e u2 ⟨rfl, b2⟩
  have HB2 := Lib.hid (keep2 b2 HB1.out)
  clear HB1 b2
  have KD_3 := Lib.hid (Cs.new u2 (u2.heap.size) #[.int .i64 code, .int .i64 a, .int .i64 p, .int .i64 0, .int .i64 0, .bool false, .bool false] 23 (by simp))
  have HB4 : Hid (Below w.heap.size w (u2.alloc (.cells #[.int .i64 code, .int .i64 a, .int .i64 p, .int .i64 0, .int .i64 0, .bool false, .bool false] 23))) := HB2.out.alloc HB2.out.size _
  clear HB2
  have KD_5 := Lib.hid (KD_3.out.alloc (.cells #[.int .i64 1, .int .i64 p, .int .i64 0] 25))
  clear KD_3
  have KA_6 := Lib.hid (Cs.new (u2.alloc (.cells #[.int .i64 code, .int .i64 a, .int .i64 p, .int .i64 0, .int .i64 0, .bool false, .bool false] 23)) (u2.heap.size + 1) #[.int .i64 1, .int .i64 p, .int .i64 0] 25 (by simp))
  have HB7 : Hid (Below w.heap.size w ((u2.alloc (.cells #[.int .i64 code, .int .i64 a, .int .i64 p, .int .i64 0, .int .i64 0, .bool false, .bool false] 23)).alloc (.cells #[.int .i64 1, .int .i64 p, .int .i64 0] 25))) := HB4.out.alloc HB4.out.size _
  clear HB4
  go_upto_region 3 with fail
  obtain ⟨wq, hwq⟩ : ∃ wq, ((u2.alloc (.cells #[.int .i64 code, .int .i64 a, .int .i64 p, .int .i64 0, .int .i64 0, .bool false, .bool false] 23)).alloc (.cells #[.int .i64 1, .int .i64 p, .int .i64 0] 25)) = wq := ⟨_, rfl⟩
  rw [hwq] at KD_5
  rw [hwq] at KA_6
  rw [hwq] at HB7 ⊢
  clear hwq
  go_cut [12, 13, 14] from 25 to 33 (fun pc qc rc wc => ∃ n1 n2 : Nat, pc = .pointer (some ⟨n1, 0, none⟩) ∧ qc = .pointer (some ⟨n2, 0, none⟩) ∧ rc = .int .i64 1 ∧ Hid (Cs wc n1 #[.int .i64 0, .int .i64 0, .int .i64 0, .int .i64 0, .int .i64 0, .bool false, .bool false]) ∧ Hid (Cs wc n2 #[.int .i64 0, .int .i64 0, .int .i64 0]) ∧ Below wq.heap.size wq wc)
  case first =>
    refine region_inv (fun bf ac wv => ∃ (n1 n2 : Nat) (v26 v27 v28 v29 v30 v25 v31 v32 v33 v12 v13 v14 : Value), ac = { tmps := #[.int .i64 code, .int .i64 other, .int .i64 a, .int .i64 b, undef, undef, undef, undef, .bool false, .bool true, .pointer (some ⟨u2.heap.size, 0, none⟩), .pointer (some ⟨u2.heap.size + 1, 0, none⟩), v12, v13, v14, undef, undef, undef, .bool true, .tuple #[.agg #[.int .i64 code, .int .i64 a, .int .i64 p, .int .i64 0, .int .i64 0, .bool false, .bool false], .agg #[.int .i64 1, .int .i64 p, .int .i64 0]], .int .i64 code, .int .i64 a, .tuple #[.agg #[.int .i64 code, .int .i64 a, .int .i64 p, .int .i64 0, .int .i64 0, .bool false, .bool false], .agg #[.int .i64 1, .int .i64 p, .int .i64 0]], .agg #[.int .i64 code, .int .i64 a, .int .i64 p, .int .i64 0, .int .i64 0, .bool false, .bool false], .agg #[.int .i64 1, .int .i64 p, .int .i64 0], v25, v26, v27, v28, v29, v30, v31, v32, v33, undef, undef, undef, undef, undef, undef, undef, undef, undef, undef, undef, undef, undef, undef, undef, undef, undef, undef, undef, undef, undef, undef, undef, undef, undef, undef, undef, undef, undef, undef, undef, undef, undef, undef, undef, undef, undef, undef], defers := [] } ∧ Mem wq wv n1 n2 v12 v13 (bf 9) (bf 11) (bf 10) (bf 12) #[.int .i64 0, .int .i64 0, .int .i64 0, .int .i64 0, .int .i64 0, .bool false, .bool false] #[.int .i64 0, .int .i64 0, .int .i64 0] ∧ (bf 0 = true → v26 = .int .i64 other) ∧ (bf 1 = true → v27 = .int .i64 b) ∧ (bf 2 = true → v28 = .agg #[.int .i64 other, .int .i64 b, .int .i64 q, .int .i64 0, .int .i64 0, .bool true, .bool false]) ∧ (bf 3 = true → v29 = .agg #[.int .i64 1, .int .i64 p, .int .i64 0]) ∧ (bf 4 = true → v30 = .tuple #[.agg #[.int .i64 0, .int .i64 0, .int .i64 0, .int .i64 0, .int .i64 0, .bool false, .bool false], .agg #[.int .i64 0, .int .i64 0, .int .i64 0], .int .i64 1]) ∧ (bf 5 = true → v25 = .tuple #[.agg #[.int .i64 0, .int .i64 0, .int .i64 0, .int .i64 0, .int .i64 0, .bool false, .bool false], .agg #[.int .i64 0, .int .i64 0, .int .i64 0], .int .i64 1]) ∧ (bf 6 = true → v31 = .agg #[.int .i64 0, .int .i64 0, .int .i64 0, .int .i64 0, .int .i64 0, .bool false, .bool false]) ∧ (bf 7 = true → v32 = .agg #[.int .i64 0, .int .i64 0, .int .i64 0]) ∧ (bf 8 = true → v33 = .int .i64 1) ∧ (bf 13 = true → v14 = .int .i64 1)) (by kernel_rfl) (by decide +kernel) ?_ ?_ ?_
    · exact ⟨_, _, _, _, _, _, _, _, _, _, _, _, _, _, rfl, Mem.start _ _ _ _ _, (by simp), (by simp), (by simp), (by simp), (by simp), (by simp), (by simp), (by simp), (by simp), (by simp)⟩
    · refine ⟨?_, ?_, ?_, ?_, ?_, ?_, ?_, ?_, ?_, ?_, ?_, ?_, ?_, ?_, trivial⟩
      · intro bf ac wv hfb haf hJ K' hK
        obtain ⟨n1, n2, v26, v27, v28, v29, v30, v25, v31, v32, v33, v12, v13, v14, rfl, hM, g26, g27, g28, g29, g30, g25, g31, g32, g33, g14⟩ := hJ
        replace hK := Lib.hid hK
        replace hM := Lib.hid hM
        replace g26 := Lib.hid g26
        replace g27 := Lib.hid g27
        replace g28 := Lib.hid g28
        replace g29 := Lib.hid g29
        replace g30 := Lib.hid g30
        replace g25 := Lib.hid g25
        replace g31 := Lib.hid g31
        replace g32 := Lib.hid g32
        replace g33 := Lib.hid g33
        replace g14 := Lib.hid g14
        go_simp
        exact hK.out _ _ ⟨n1, n2, .int .i64 other, v27, v28, v29, v30, v25, v31, v32, v33, v12, v13, v14, rfl, hM.out, fun _ => rfl, g27.out, g28.out, g29.out, g30.out, g25.out, g31.out, g32.out, g33.out, g14.out⟩
      · intro bf ac wv hfb haf hJ K' hK
        obtain ⟨n1, n2, v26, v27, v28, v29, v30, v25, v31, v32, v33, v12, v13, v14, rfl, hM, g26, g27, g28, g29, g30, g25, g31, g32, g33, g14⟩ := hJ
        replace hK := Lib.hid hK
        replace hM := Lib.hid hM
        replace g26 := Lib.hid g26
        replace g27 := Lib.hid g27
        replace g28 := Lib.hid g28
        replace g29 := Lib.hid g29
        replace g30 := Lib.hid g30
        replace g25 := Lib.hid g25
        replace g31 := Lib.hid g31
        replace g32 := Lib.hid g32
        replace g33 := Lib.hid g33
        replace g14 := Lib.hid g14
        go_simp
        exact hK.out _ _ ⟨n1, n2, v26, .int .i64 b, v28, v29, v30, v25, v31, v32, v33, v12, v13, v14, rfl, hM.out, g26.out, fun _ => rfl, g28.out, g29.out, g30.out, g25.out, g31.out, g32.out, g33.out, g14.out⟩
      · intro bf ac wv hfb haf hJ K' hK
        obtain ⟨n1, n2, v26, v27, v28, v29, v30, v25, v31, v32, v33, v12, v13, v14, rfl, hM, g26, g27, g28, g29, g30, g25, g31, g32, g33, g14⟩ := hJ
        replace hK := Lib.hid hK
        replace hM := Lib.hid hM
        replace g26 := Lib.hid g26
        replace g27 := Lib.hid g27
        replace g28 := Lib.hid g28
        replace g29 := Lib.hid g29
        replace g30 := Lib.hid g30
        replace g25 := Lib.hid g25
        replace g31 := Lib.hid g31
        replace g32 := Lib.hid g32
        replace g33 := Lib.hid g33
        replace g14 := Lib.hid g14
        simp [Region.binds] at haf
        have hb0 : bf 0 = true := by simp [haf]
        have hb1 : bf 1 = true := by simp [haf]
        obtain rfl := g26.out hb0
        obtain rfl := g27.out hb1
        go_simp
        go_at_call 14
        refine (hub_is other b q _ hq.out).mono ?_
        rintro e w4 ⟨rfl, b4⟩
        exact hK.out _ _ ⟨n1, n2, .int .i64 other, .int .i64 b, .agg #[.int .i64 other, .int .i64 b, .int .i64 q, .int .i64 0, .int .i64 0, .bool true, .bool false], v29, v30, v25, v31, v32, v33, v12, v13, v14, rfl, hM.out.step b4, g26.out, g27.out, fun _ => rfl, g29.out, g30.out, g25.out, g31.out, g32.out, g33.out, g14.out⟩
      · intro bf ac wv hfb haf hJ K' hK
        obtain ⟨n1, n2, v26, v27, v28, v29, v30, v25, v31, v32, v33, v12, v13, v14, rfl, hM, g26, g27, g28, g29, g30, g25, g31, g32, g33, g14⟩ := hJ
        replace hK := Lib.hid hK
        replace hM := Lib.hid hM
        replace g26 := Lib.hid g26
        replace g27 := Lib.hid g27
        replace g28 := Lib.hid g28
        replace g29 := Lib.hid g29
        replace g30 := Lib.hid g30
        replace g25 := Lib.hid g25
        replace g31 := Lib.hid g31
        replace g32 := Lib.hid g32
        replace g33 := Lib.hid g33
        replace g14 := Lib.hid g14
        have hA := KA_6.out.step hM.out.below
        have xA0 := hA.c 0 rfl
        have xA1 := hA.c 1 rfl
        have xA2 := hA.c 2 rfl
        have zA := hA.2.2
        clear hA
        go_simp
        exact hK.out _ _ ⟨n1, n2, v26, v27, v28, .agg #[.int .i64 1, .int .i64 p, .int .i64 0], v30, v25, v31, v32, v33, v12, v13, v14, rfl, hM.out, g26.out, g27.out, g28.out, fun _ => rfl, g30.out, g25.out, g31.out, g32.out, g33.out, g14.out⟩
      · intro bf ac wv hfb haf hJ K' hK
        obtain ⟨n1, n2, v26, v27, v28, v29, v30, v25, v31, v32, v33, v12, v13, v14, rfl, hM, g26, g27, g28, g29, g30, g25, g31, g32, g33, g14⟩ := hJ
        replace hK := Lib.hid hK
        replace hM := Lib.hid hM
        replace g26 := Lib.hid g26
        replace g27 := Lib.hid g27
        replace g28 := Lib.hid g28
        replace g29 := Lib.hid g29
        replace g30 := Lib.hid g30
        replace g25 := Lib.hid g25
        replace g31 := Lib.hid g31
        replace g32 := Lib.hid g32
        replace g33 := Lib.hid g33
        replace g14 := Lib.hid g14
        simp [Region.binds] at haf
        have hb2 : bf 2 = true := by simp [haf]
        have hb3 : bf 3 = true := by simp [haf]
        obtain rfl := g28.out hb2
        obtain rfl := g29.out hb3
        go_simp
        go_at_call 12
        refine (recv_is other b q 0 0 true false 1 p 0 1 _ _ _ hw1.out).mono ?_
        rintro e w5 ⟨rfl, b5⟩
        exact hK.out _ _ ⟨n1, n2, v26, v27, .agg #[.int .i64 other, .int .i64 b, .int .i64 q, .int .i64 0, .int .i64 0, .bool true, .bool false], .agg #[.int .i64 1, .int .i64 p, .int .i64 0], .tuple #[.agg #[.int .i64 0, .int .i64 0, .int .i64 0, .int .i64 0, .int .i64 0, .bool false, .bool false], .agg #[.int .i64 0, .int .i64 0, .int .i64 0], .int .i64 1], v25, v31, v32, v33, v12, v13, v14, rfl, hM.out.step b5, g26.out, g27.out, g28.out, g29.out, fun _ => rfl, g25.out, g31.out, g32.out, g33.out, g14.out⟩
      · intro bf ac wv hfb haf hJ K' hK
        obtain ⟨n1, n2, v26, v27, v28, v29, v30, v25, v31, v32, v33, v12, v13, v14, rfl, hM, g26, g27, g28, g29, g30, g25, g31, g32, g33, g14⟩ := hJ
        replace hK := Lib.hid hK
        replace hM := Lib.hid hM
        replace g26 := Lib.hid g26
        replace g27 := Lib.hid g27
        replace g28 := Lib.hid g28
        replace g29 := Lib.hid g29
        replace g30 := Lib.hid g30
        replace g25 := Lib.hid g25
        replace g31 := Lib.hid g31
        replace g32 := Lib.hid g32
        replace g33 := Lib.hid g33
        replace g14 := Lib.hid g14
        simp [Region.binds] at haf
        have hb4 : bf 4 = true := by simp [haf]
        obtain rfl := g30.out hb4
        go_simp
        exact hK.out _ _ ⟨n1, n2, v26, v27, v28, v29, .tuple #[.agg #[.int .i64 0, .int .i64 0, .int .i64 0, .int .i64 0, .int .i64 0, .bool false, .bool false], .agg #[.int .i64 0, .int .i64 0, .int .i64 0], .int .i64 1], .tuple #[.agg #[.int .i64 0, .int .i64 0, .int .i64 0, .int .i64 0, .int .i64 0, .bool false, .bool false], .agg #[.int .i64 0, .int .i64 0, .int .i64 0], .int .i64 1], v31, v32, v33, v12, v13, v14, rfl, hM.out, g26.out, g27.out, g28.out, g29.out, g30.out, fun _ => rfl, g31.out, g32.out, g33.out, g14.out⟩
      · intro bf ac wv hfb haf hJ K' hK
        obtain ⟨n1, n2, v26, v27, v28, v29, v30, v25, v31, v32, v33, v12, v13, v14, rfl, hM, g26, g27, g28, g29, g30, g25, g31, g32, g33, g14⟩ := hJ
        replace hK := Lib.hid hK
        replace hM := Lib.hid hM
        replace g26 := Lib.hid g26
        replace g27 := Lib.hid g27
        replace g28 := Lib.hid g28
        replace g29 := Lib.hid g29
        replace g30 := Lib.hid g30
        replace g25 := Lib.hid g25
        replace g31 := Lib.hid g31
        replace g32 := Lib.hid g32
        replace g33 := Lib.hid g33
        replace g14 := Lib.hid g14
        simp [Region.binds] at haf
        have hb5 : bf 5 = true := by simp [haf]
        obtain rfl := g25.out hb5
        go_simp
        exact hK.out _ _ ⟨n1, n2, v26, v27, v28, v29, v30, .tuple #[.agg #[.int .i64 0, .int .i64 0, .int .i64 0, .int .i64 0, .int .i64 0, .bool false, .bool false], .agg #[.int .i64 0, .int .i64 0, .int .i64 0], .int .i64 1], .agg #[.int .i64 0, .int .i64 0, .int .i64 0, .int .i64 0, .int .i64 0, .bool false, .bool false], v32, v33, v12, v13, v14, rfl, hM.out, g26.out, g27.out, g28.out, g29.out, g30.out, g25.out, fun _ => rfl, g32.out, g33.out, g14.out⟩
      · intro bf ac wv hfb haf hJ K' hK
        obtain ⟨n1, n2, v26, v27, v28, v29, v30, v25, v31, v32, v33, v12, v13, v14, rfl, hM, g26, g27, g28, g29, g30, g25, g31, g32, g33, g14⟩ := hJ
        replace hK := Lib.hid hK
        replace hM := Lib.hid hM
        replace g26 := Lib.hid g26
        replace g27 := Lib.hid g27
        replace g28 := Lib.hid g28
        replace g29 := Lib.hid g29
        replace g30 := Lib.hid g30
        replace g25 := Lib.hid g25
        replace g31 := Lib.hid g31
        replace g32 := Lib.hid g32
        replace g33 := Lib.hid g33
        replace g14 := Lib.hid g14
        simp [Region.binds] at haf
        have hb5 : bf 5 = true := by simp [haf]
        obtain rfl := g25.out hb5
        go_simp
        exact hK.out _ _ ⟨n1, n2, v26, v27, v28, v29, v30, .tuple #[.agg #[.int .i64 0, .int .i64 0, .int .i64 0, .int .i64 0, .int .i64 0, .bool false, .bool false], .agg #[.int .i64 0, .int .i64 0, .int .i64 0], .int .i64 1], v31, .agg #[.int .i64 0, .int .i64 0, .int .i64 0], v33, v12, v13, v14, rfl, hM.out, g26.out, g27.out, g28.out, g29.out, g30.out, g25.out, g31.out, fun _ => rfl, g33.out, g14.out⟩
      · intro bf ac wv hfb haf hJ K' hK
        obtain ⟨n1, n2, v26, v27, v28, v29, v30, v25, v31, v32, v33, v12, v13, v14, rfl, hM, g26, g27, g28, g29, g30, g25, g31, g32, g33, g14⟩ := hJ
        replace hK := Lib.hid hK
        replace hM := Lib.hid hM
        replace g26 := Lib.hid g26
        replace g27 := Lib.hid g27
        replace g28 := Lib.hid g28
        replace g29 := Lib.hid g29
        replace g30 := Lib.hid g30
        replace g25 := Lib.hid g25
        replace g31 := Lib.hid g31
        replace g32 := Lib.hid g32
        replace g33 := Lib.hid g33
        replace g14 := Lib.hid g14
        simp [Region.binds] at haf
        have hb5 : bf 5 = true := by simp [haf]
        obtain rfl := g25.out hb5
        go_simp
        exact hK.out _ _ ⟨n1, n2, v26, v27, v28, v29, v30, .tuple #[.agg #[.int .i64 0, .int .i64 0, .int .i64 0, .int .i64 0, .int .i64 0, .bool false, .bool false], .agg #[.int .i64 0, .int .i64 0, .int .i64 0], .int .i64 1], v31, v32, .int .i64 1, v12, v13, v14, rfl, hM.out, g26.out, g27.out, g28.out, g29.out, g30.out, g25.out, g31.out, g32.out, fun _ => rfl, g14.out⟩
      · intro bf ac wv hfb haf hJ K' hK
        obtain ⟨n1, n2, v26, v27, v28, v29, v30, v25, v31, v32, v33, v12, v13, v14, rfl, hM, g26, g27, g28, g29, g30, g25, g31, g32, g33, g14⟩ := hJ
        replace hK := Lib.hid hK
        replace hM := Lib.hid hM
        replace g26 := Lib.hid g26
        replace g27 := Lib.hid g27
        replace g28 := Lib.hid g28
        replace g29 := Lib.hid g29
        replace g30 := Lib.hid g30
        replace g25 := Lib.hid g25
        replace g31 := Lib.hid g31
        replace g32 := Lib.hid g32
        replace g33 := Lib.hid g33
        replace g14 := Lib.hid g14
        obtain ⟨m2, hM2⟩ := hM.out.alloc1 hfb
        have hM2 := Lib.hid hM2
        clear hM
        go_simp
        exact hK.out _ _ ⟨_, m2, v26, v27, v28, v29, v30, v25, v31, v32, v33, _, v13, v14, rfl, hM2.out, g26.out, g27.out, g28.out, g29.out, g30.out, g25.out, g31.out, g32.out, g33.out, g14.out⟩
      · intro bf ac wv hfb haf hJ K' hK
        obtain ⟨n1, n2, v26, v27, v28, v29, v30, v25, v31, v32, v33, v12, v13, v14, rfl, hM, g26, g27, g28, g29, g30, g25, g31, g32, g33, g14⟩ := hJ
        replace hK := Lib.hid hK
        replace hM := Lib.hid hM
        replace g26 := Lib.hid g26
        replace g27 := Lib.hid g27
        replace g28 := Lib.hid g28
        replace g29 := Lib.hid g29
        replace g30 := Lib.hid g30
        replace g25 := Lib.hid g25
        replace g31 := Lib.hid g31
        replace g32 := Lib.hid g32
        replace g33 := Lib.hid g33
        replace g14 := Lib.hid g14
        obtain ⟨m1, hM2⟩ := hM.out.alloc2 hfb
        have hM2 := Lib.hid hM2
        clear hM
        go_simp
        exact hK.out _ _ ⟨m1, _, v26, v27, v28, v29, v30, v25, v31, v32, v33, v12, _, v14, rfl, hM2.out, g26.out, g27.out, g28.out, g29.out, g30.out, g25.out, g31.out, g32.out, g33.out, g14.out⟩
      · intro bf ac wv hfb haf hJ K' hK
        obtain ⟨n1, n2, v26, v27, v28, v29, v30, v25, v31, v32, v33, v12, v13, v14, rfl, hM, g26, g27, g28, g29, g30, g25, g31, g32, g33, g14⟩ := hJ
        replace hK := Lib.hid hK
        replace hM := Lib.hid hM
        replace g26 := Lib.hid g26
        replace g27 := Lib.hid g27
        replace g28 := Lib.hid g28
        replace g29 := Lib.hid g29
        replace g30 := Lib.hid g30
        replace g25 := Lib.hid g25
        replace g31 := Lib.hid g31
        replace g32 := Lib.hid g32
        replace g33 := Lib.hid g33
        replace g14 := Lib.hid g14
        simp [Region.binds] at haf
        have hb6 : bf 6 = true := by simp [haf]
        have hb9 : bf 9 = true := by simp [haf]
        obtain rfl := g31.out hb6
        obtain ⟨rfl, hZ⟩ := hM.out.zero1 hb9 hfb
        have hZ := Lib.hid hZ
        unfold ptr at hM hK ⊢
        have xZ0 := hZ.out.c 0 rfl
        have yZ0 := hZ.out.f 0 (by simp)
        have xZ1 := hZ.out.c 1 rfl
        have yZ1 := hZ.out.f 1 (by simp)
        have xZ2 := hZ.out.c 2 rfl
        have yZ2 := hZ.out.f 2 (by simp)
        have xZ3 := hZ.out.c 3 rfl
        have yZ3 := hZ.out.f 3 (by simp)
        have xZ4 := hZ.out.c 4 rfl
        have yZ4 := hZ.out.f 4 (by simp)
        have xZ5 := hZ.out.c 5 rfl
        have yZ5 := hZ.out.f 5 (by simp)
        have xZ6 := hZ.out.c 6 rfl
        have yZ6 := hZ.out.f 6 (by simp)
        have zZ := hZ.out.2.2
        go_simp
        have hM3 := hM.out; rw [hb9] at hM3
        have hM4 := hM3.store1 (Turned.all7 hZ.out)
        exact hK.out _ _ ⟨n1, n2, v26, v27, v28, v29, v30, v25, .agg #[.int .i64 0, .int .i64 0, .int .i64 0, .int .i64 0, .int .i64 0, .bool false, .bool false], v32, v33, .pointer (some ⟨n1, 0, none⟩), v13, v14, rfl, (by rw [show up bf 11 9 = true from hb9]; exact hM4), g26.out, g27.out, g28.out, g29.out, g30.out, g25.out, g31.out, g32.out, g33.out, g14.out⟩
      · intro bf ac wv hfb haf hJ K' hK
        obtain ⟨n1, n2, v26, v27, v28, v29, v30, v25, v31, v32, v33, v12, v13, v14, rfl, hM, g26, g27, g28, g29, g30, g25, g31, g32, g33, g14⟩ := hJ
        replace hK := Lib.hid hK
        replace hM := Lib.hid hM
        replace g26 := Lib.hid g26
        replace g27 := Lib.hid g27
        replace g28 := Lib.hid g28
        replace g29 := Lib.hid g29
        replace g30 := Lib.hid g30
        replace g25 := Lib.hid g25
        replace g31 := Lib.hid g31
        replace g32 := Lib.hid g32
        replace g33 := Lib.hid g33
        replace g14 := Lib.hid g14
        simp [Region.binds] at haf
        have hb7 : bf 7 = true := by simp [haf]
        have hb10 : bf 10 = true := by simp [haf]
        obtain rfl := g32.out hb7
        obtain ⟨rfl, hZ⟩ := hM.out.zero2 hb10 hfb
        have hZ := Lib.hid hZ
        unfold ptr at hM hK ⊢
        have xZ0 := hZ.out.c 0 rfl
        have yZ0 := hZ.out.f 0 (by simp)
        have xZ1 := hZ.out.c 1 rfl
        have yZ1 := hZ.out.f 1 (by simp)
        have xZ2 := hZ.out.c 2 rfl
        have yZ2 := hZ.out.f 2 (by simp)
        have zZ := hZ.out.2.2
        go_simp
        have hM3 := hM.out; rw [hb10] at hM3
        have hM4 := hM3.store2 (Turned.all3 hZ.out)
        exact hK.out _ _ ⟨n1, n2, v26, v27, v28, v29, v30, v25, v31, .agg #[.int .i64 0, .int .i64 0, .int .i64 0], v33, v12, .pointer (some ⟨n2, 0, none⟩), v14, rfl, (by rw [show up bf 12 10 = true from hb10]; exact hM4), g26.out, g27.out, g28.out, g29.out, g30.out, g25.out, g31.out, g32.out, g33.out, g14.out⟩
      · intro bf ac wv hfb haf hJ K' hK
        obtain ⟨n1, n2, v26, v27, v28, v29, v30, v25, v31, v32, v33, v12, v13, v14, rfl, hM, g26, g27, g28, g29, g30, g25, g31, g32, g33, g14⟩ := hJ
        replace hK := Lib.hid hK
        replace hM := Lib.hid hM
        replace g26 := Lib.hid g26
        replace g27 := Lib.hid g27
        replace g28 := Lib.hid g28
        replace g29 := Lib.hid g29
        replace g30 := Lib.hid g30
        replace g25 := Lib.hid g25
        replace g31 := Lib.hid g31
        replace g32 := Lib.hid g32
        replace g33 := Lib.hid g33
        replace g14 := Lib.hid g14
        simp [Region.binds] at haf
        have hb8 : bf 8 = true := by simp [haf]
        obtain rfl := g33.out hb8
        go_simp
        exact hK.out _ _ ⟨n1, n2, v26, v27, v28, v29, v30, v25, v31, v32, .int .i64 1, v12, v13, .int .i64 1, rfl, hM.out, g26.out, g27.out, g28.out, g29.out, g30.out, g25.out, g31.out, g32.out, g33.out, fun _ => rfl⟩
    · intro bf ac wv hall hJ
      obtain ⟨n1, n2, v26, v27, v28, v29, v30, v25, v31, v32, v33, v12, v13, v14, rfl, hM, g26, g27, g28, g29, g30, g25, g31, g32, g33, g14⟩ := hJ
      obtain rfl := g14 (hall 13 (by decide))
      rw [hall 9 (by decide), hall 10 (by decide), hall 11 (by decide), hall 12 (by decide)] at hM
      obtain ⟨rfl, h1⟩ := hM.c1 rfl
      obtain ⟨rfl, h2⟩ := hM.c2 rfl
      have hB := hM.below
      clear g26 g27 g28 g29 g30 g25 g31 g32 g33 g14 hM hall
      unfold ptr
      go_wp2
      go_meet
      exact ⟨n1, n2, rfl, rfl, rfl, Lib.hid h1, Lib.hid h2, hB⟩
  case rest =>
    obtain ⟨n1, n2, rfl, rfl, rfl, hJ, hH, hB⟩ := hcut
    have KD_8 := Lib.hid (KD_5.out.step hB)
    clear KD_5
    have KA_9 := Lib.hid (KA_6.out.step hB)
    clear KA_6
    have HB10 := Lib.hid (keep2 hB HB7.out)
    clear HB7 hB
    have xC0 : wc.cell? ⟨n2, 0, none⟩ = some (.int .i64 0) := hH.out.c 0 rfl
    have xC1 : wc.cell? ⟨n2, 1, none⟩ = some (.int .i64 0) := hH.out.c 1 rfl
    have xC2 : wc.cell? ⟨n2, 2, none⟩ = some (.int .i64 0) := hH.out.c 2 rfl
    have zC : n2 < wc.heap.size := hH.out.2.2
    have z2C : n2 < wc.heap.size + 1 := by omega
    go_wp2
    go_ret
    exact ⟨rfl, HB10.out⟩
set_option maxRecDepth 100000 in
set_option maxHeartbeats 4000000 in
theorem codes_no2 (code other a b p q r : Int) (w : World) (hp : pw 7 a = p) (hq : pw 7 b = q) (hb : accB q = false) (hw1 : RW other b q 0 0 true false 1 p 0 0 (jc other b q p 0 true false) (hc3 2 q r)) : Calls Try.prog 5 #[.int .i64 code, .int .i64 other, .int .i64 a, .int .i64 b] w fun e w' => e = .returned (.bool true) ∧ Below w.heap.size w w' := by
  replace hp := Lib.hid hp
  replace hq := Lib.hid hq
  replace hb := Lib.hid hb
  replace hw1 := Lib.hid hw1
  have HB0 := Lib.hid (Below.refl w.heap.size w)
  go_enter Try.func5, Try.ntmps5
  go_wp2_with fail
  refine (head_any _).mono ?_
  rintro e u1 ⟨rfl, b1⟩
  have HB1 := Lib.hid (keep2 b1 HB0.out)
  clear HB0 b1
  go_wp2_with fail
  refine (device_is code a p _ hp.out).mono ?_
  rintro e u2 ⟨rfl, b2⟩
  have HB2 := Lib.hid (keep2 b2 HB1.out)
  clear HB1 b2
  have KD_3 := Lib.hid (Cs.new u2 (u2.heap.size) #[.int .i64 code, .int .i64 a, .int .i64 p, .int .i64 0, .int .i64 0, .bool false, .bool false] 23 (by simp))
  have HB4 : Hid (Below w.heap.size w (u2.alloc (.cells #[.int .i64 code, .int .i64 a, .int .i64 p, .int .i64 0, .int .i64 0, .bool false, .bool false] 23))) := HB2.out.alloc HB2.out.size _
  clear HB2
  have KD_5 := Lib.hid (KD_3.out.alloc (.cells #[.int .i64 1, .int .i64 p, .int .i64 0] 25))
  clear KD_3
  have KA_6 := Lib.hid (Cs.new (u2.alloc (.cells #[.int .i64 code, .int .i64 a, .int .i64 p, .int .i64 0, .int .i64 0, .bool false, .bool false] 23)) (u2.heap.size + 1) #[.int .i64 1, .int .i64 p, .int .i64 0] 25 (by simp))
  have HB7 : Hid (Below w.heap.size w ((u2.alloc (.cells #[.int .i64 code, .int .i64 a, .int .i64 p, .int .i64 0, .int .i64 0, .bool false, .bool false] 23)).alloc (.cells #[.int .i64 1, .int .i64 p, .int .i64 0] 25))) := HB4.out.alloc HB4.out.size _
  clear HB4
  go_upto_region 3 with fail
  obtain ⟨wq, hwq⟩ : ∃ wq, ((u2.alloc (.cells #[.int .i64 code, .int .i64 a, .int .i64 p, .int .i64 0, .int .i64 0, .bool false, .bool false] 23)).alloc (.cells #[.int .i64 1, .int .i64 p, .int .i64 0] 25)) = wq := ⟨_, rfl⟩
  rw [hwq] at KD_5
  rw [hwq] at KA_6
  rw [hwq] at HB7 ⊢
  clear hwq
  go_cut [12, 13, 14] from 25 to 33 (fun pc qc rc wc => ∃ n1 n2 : Nat, pc = .pointer (some ⟨n1, 0, none⟩) ∧ qc = .pointer (some ⟨n2, 0, none⟩) ∧ rc = .int .i64 0 ∧ Hid (Cs wc n1 #[.int .i64 other, .int .i64 b, .int .i64 q, .int .i64 p, .int .i64 0, .bool true, .bool false]) ∧ Hid (Cs wc n2 #[.int .i64 2, .int .i64 q, .int .i64 r]) ∧ Below wq.heap.size wq wc)
  case first =>
    refine region_inv (fun bf ac wv => ∃ (n1 n2 : Nat) (v26 v27 v28 v29 v30 v25 v31 v32 v33 v12 v13 v14 : Value), ac = { tmps := #[.int .i64 code, .int .i64 other, .int .i64 a, .int .i64 b, undef, undef, undef, undef, .bool false, .bool true, .pointer (some ⟨u2.heap.size, 0, none⟩), .pointer (some ⟨u2.heap.size + 1, 0, none⟩), v12, v13, v14, undef, undef, undef, .bool true, .tuple #[.agg #[.int .i64 code, .int .i64 a, .int .i64 p, .int .i64 0, .int .i64 0, .bool false, .bool false], .agg #[.int .i64 1, .int .i64 p, .int .i64 0]], .int .i64 code, .int .i64 a, .tuple #[.agg #[.int .i64 code, .int .i64 a, .int .i64 p, .int .i64 0, .int .i64 0, .bool false, .bool false], .agg #[.int .i64 1, .int .i64 p, .int .i64 0]], .agg #[.int .i64 code, .int .i64 a, .int .i64 p, .int .i64 0, .int .i64 0, .bool false, .bool false], .agg #[.int .i64 1, .int .i64 p, .int .i64 0], v25, v26, v27, v28, v29, v30, v31, v32, v33, undef, undef, undef, undef, undef, undef, undef, undef, undef, undef, undef, undef, undef, undef, undef, undef, undef, undef, undef, undef, undef, undef, undef, undef, undef, undef, undef, undef, undef, undef, undef, undef, undef, undef, undef, undef, undef, undef], defers := [] } ∧ Mem wq wv n1 n2 v12 v13 (bf 9) (bf 11) (bf 10) (bf 12) #[.int .i64 other, .int .i64 b, .int .i64 q, .int .i64 p, .int .i64 0, .bool true, .bool false] #[.int .i64 2, .int .i64 q, .int .i64 r] ∧ (bf 0 = true → v26 = .int .i64 other) ∧ (bf 1 = true → v27 = .int .i64 b) ∧ (bf 2 = true → v28 = .agg #[.int .i64 other, .int .i64 b, .int .i64 q, .int .i64 0, .int .i64 0, .bool true, .bool false]) ∧ (bf 3 = true → v29 = .agg #[.int .i64 1, .int .i64 p, .int .i64 0]) ∧ (bf 4 = true → v30 = .tuple #[.agg #[.int .i64 other, .int .i64 b, .int .i64 q, .int .i64 p, .int .i64 0, .bool true, .bool false], .agg #[.int .i64 2, .int .i64 q, .int .i64 r], .int .i64 0]) ∧ (bf 5 = true → v25 = .tuple #[.agg #[.int .i64 other, .int .i64 b, .int .i64 q, .int .i64 p, .int .i64 0, .bool true, .bool false], .agg #[.int .i64 2, .int .i64 q, .int .i64 r], .int .i64 0]) ∧ (bf 6 = true → v31 = .agg #[.int .i64 other, .int .i64 b, .int .i64 q, .int .i64 p, .int .i64 0, .bool true, .bool false]) ∧ (bf 7 = true → v32 = .agg #[.int .i64 2, .int .i64 q, .int .i64 r]) ∧ (bf 8 = true → v33 = .int .i64 0) ∧ (bf 13 = true → v14 = .int .i64 0)) (by kernel_rfl) (by decide +kernel) ?_ ?_ ?_
    · exact ⟨_, _, _, _, _, _, _, _, _, _, _, _, _, _, rfl, Mem.start _ _ _ _ _, (by simp), (by simp), (by simp), (by simp), (by simp), (by simp), (by simp), (by simp), (by simp), (by simp)⟩
    · refine ⟨?_, ?_, ?_, ?_, ?_, ?_, ?_, ?_, ?_, ?_, ?_, ?_, ?_, ?_, trivial⟩
      · intro bf ac wv hfb haf hJ K' hK
        obtain ⟨n1, n2, v26, v27, v28, v29, v30, v25, v31, v32, v33, v12, v13, v14, rfl, hM, g26, g27, g28, g29, g30, g25, g31, g32, g33, g14⟩ := hJ
        replace hK := Lib.hid hK
        replace hM := Lib.hid hM
        replace g26 := Lib.hid g26
        replace g27 := Lib.hid g27
        replace g28 := Lib.hid g28
        replace g29 := Lib.hid g29
        replace g30 := Lib.hid g30
        replace g25 := Lib.hid g25
        replace g31 := Lib.hid g31
        replace g32 := Lib.hid g32
        replace g33 := Lib.hid g33
        replace g14 := Lib.hid g14
        go_simp
        exact hK.out _ _ ⟨n1, n2, .int .i64 other, v27, v28, v29, v30, v25, v31, v32, v33, v12, v13, v14, rfl, hM.out, fun _ => rfl, g27.out, g28.out, g29.out, g30.out, g25.out, g31.out, g32.out, g33.out, g14.out⟩
      · intro bf ac wv hfb haf hJ K' hK
        obtain ⟨n1, n2, v26, v27, v28, v29, v30, v25, v31, v32, v33, v12, v13, v14, rfl, hM, g26, g27, g28, g29, g30, g25, g31, g32, g33, g14⟩ := hJ
        replace hK := Lib.hid hK
        replace hM := Lib.hid hM
        replace g26 := Lib.hid g26
        replace g27 := Lib.hid g27
        replace g28 := Lib.hid g28
        replace g29 := Lib.hid g29
        replace g30 := Lib.hid g30
        replace g25 := Lib.hid g25
        replace g31 := Lib.hid g31
        replace g32 := Lib.hid g32
        replace g33 := Lib.hid g33
        replace g14 := Lib.hid g14
        go_simp
        exact hK.out _ _ ⟨n1, n2, v26, .int .i64 b, v28, v29, v30, v25, v31, v32, v33, v12, v13, v14, rfl, hM.out, g26.out, fun _ => rfl, g28.out, g29.out, g30.out, g25.out, g31.out, g32.out, g33.out, g14.out⟩
      · intro bf ac wv hfb haf hJ K' hK
        obtain ⟨n1, n2, v26, v27, v28, v29, v30, v25, v31, v32, v33, v12, v13, v14, rfl, hM, g26, g27, g28, g29, g30, g25, g31, g32, g33, g14⟩ := hJ
        replace hK := Lib.hid hK
        replace hM := Lib.hid hM
        replace g26 := Lib.hid g26
        replace g27 := Lib.hid g27
        replace g28 := Lib.hid g28
        replace g29 := Lib.hid g29
        replace g30 := Lib.hid g30
        replace g25 := Lib.hid g25
        replace g31 := Lib.hid g31
        replace g32 := Lib.hid g32
        replace g33 := Lib.hid g33
        replace g14 := Lib.hid g14
        simp [Region.binds] at haf
        have hb0 : bf 0 = true := by simp [haf]
        have hb1 : bf 1 = true := by simp [haf]
        obtain rfl := g26.out hb0
        obtain rfl := g27.out hb1
        go_simp
        go_at_call 14
        refine (hub_is other b q _ hq.out).mono ?_
        rintro e w4 ⟨rfl, b4⟩
        exact hK.out _ _ ⟨n1, n2, .int .i64 other, .int .i64 b, .agg #[.int .i64 other, .int .i64 b, .int .i64 q, .int .i64 0, .int .i64 0, .bool true, .bool false], v29, v30, v25, v31, v32, v33, v12, v13, v14, rfl, hM.out.step b4, g26.out, g27.out, fun _ => rfl, g29.out, g30.out, g25.out, g31.out, g32.out, g33.out, g14.out⟩
      · intro bf ac wv hfb haf hJ K' hK
        obtain ⟨n1, n2, v26, v27, v28, v29, v30, v25, v31, v32, v33, v12, v13, v14, rfl, hM, g26, g27, g28, g29, g30, g25, g31, g32, g33, g14⟩ := hJ
        replace hK := Lib.hid hK
        replace hM := Lib.hid hM
        replace g26 := Lib.hid g26
        replace g27 := Lib.hid g27
        replace g28 := Lib.hid g28
        replace g29 := Lib.hid g29
        replace g30 := Lib.hid g30
        replace g25 := Lib.hid g25
        replace g31 := Lib.hid g31
        replace g32 := Lib.hid g32
        replace g33 := Lib.hid g33
        replace g14 := Lib.hid g14
        have hA := KA_6.out.step hM.out.below
        have xA0 := hA.c 0 rfl
        have xA1 := hA.c 1 rfl
        have xA2 := hA.c 2 rfl
        have zA := hA.2.2
        clear hA
        go_simp
        exact hK.out _ _ ⟨n1, n2, v26, v27, v28, .agg #[.int .i64 1, .int .i64 p, .int .i64 0], v30, v25, v31, v32, v33, v12, v13, v14, rfl, hM.out, g26.out, g27.out, g28.out, fun _ => rfl, g30.out, g25.out, g31.out, g32.out, g33.out, g14.out⟩
      · intro bf ac wv hfb haf hJ K' hK
        obtain ⟨n1, n2, v26, v27, v28, v29, v30, v25, v31, v32, v33, v12, v13, v14, rfl, hM, g26, g27, g28, g29, g30, g25, g31, g32, g33, g14⟩ := hJ
        replace hK := Lib.hid hK
        replace hM := Lib.hid hM
        replace g26 := Lib.hid g26
        replace g27 := Lib.hid g27
        replace g28 := Lib.hid g28
        replace g29 := Lib.hid g29
        replace g30 := Lib.hid g30
        replace g25 := Lib.hid g25
        replace g31 := Lib.hid g31
        replace g32 := Lib.hid g32
        replace g33 := Lib.hid g33
        replace g14 := Lib.hid g14
        simp [Region.binds] at haf
        have hb2 : bf 2 = true := by simp [haf]
        have hb3 : bf 3 = true := by simp [haf]
        obtain rfl := g28.out hb2
        obtain rfl := g29.out hb3
        go_simp
        go_at_call 12
        refine (recv_is other b q 0 0 true false 1 p 0 0 _ _ _ hw1.out).mono ?_
        rintro e w5 ⟨rfl, b5⟩
        exact hK.out _ _ ⟨n1, n2, v26, v27, .agg #[.int .i64 other, .int .i64 b, .int .i64 q, .int .i64 0, .int .i64 0, .bool true, .bool false], .agg #[.int .i64 1, .int .i64 p, .int .i64 0], .tuple #[.agg #[.int .i64 other, .int .i64 b, .int .i64 q, .int .i64 p, .int .i64 0, .bool true, .bool false], .agg #[.int .i64 2, .int .i64 q, .int .i64 r], .int .i64 0], v25, v31, v32, v33, v12, v13, v14, rfl, hM.out.step b5, g26.out, g27.out, g28.out, g29.out, fun _ => rfl, g25.out, g31.out, g32.out, g33.out, g14.out⟩
      · intro bf ac wv hfb haf hJ K' hK
        obtain ⟨n1, n2, v26, v27, v28, v29, v30, v25, v31, v32, v33, v12, v13, v14, rfl, hM, g26, g27, g28, g29, g30, g25, g31, g32, g33, g14⟩ := hJ
        replace hK := Lib.hid hK
        replace hM := Lib.hid hM
        replace g26 := Lib.hid g26
        replace g27 := Lib.hid g27
        replace g28 := Lib.hid g28
        replace g29 := Lib.hid g29
        replace g30 := Lib.hid g30
        replace g25 := Lib.hid g25
        replace g31 := Lib.hid g31
        replace g32 := Lib.hid g32
        replace g33 := Lib.hid g33
        replace g14 := Lib.hid g14
        simp [Region.binds] at haf
        have hb4 : bf 4 = true := by simp [haf]
        obtain rfl := g30.out hb4
        go_simp
        exact hK.out _ _ ⟨n1, n2, v26, v27, v28, v29, .tuple #[.agg #[.int .i64 other, .int .i64 b, .int .i64 q, .int .i64 p, .int .i64 0, .bool true, .bool false], .agg #[.int .i64 2, .int .i64 q, .int .i64 r], .int .i64 0], .tuple #[.agg #[.int .i64 other, .int .i64 b, .int .i64 q, .int .i64 p, .int .i64 0, .bool true, .bool false], .agg #[.int .i64 2, .int .i64 q, .int .i64 r], .int .i64 0], v31, v32, v33, v12, v13, v14, rfl, hM.out, g26.out, g27.out, g28.out, g29.out, g30.out, fun _ => rfl, g31.out, g32.out, g33.out, g14.out⟩
      · intro bf ac wv hfb haf hJ K' hK
        obtain ⟨n1, n2, v26, v27, v28, v29, v30, v25, v31, v32, v33, v12, v13, v14, rfl, hM, g26, g27, g28, g29, g30, g25, g31, g32, g33, g14⟩ := hJ
        replace hK := Lib.hid hK
        replace hM := Lib.hid hM
        replace g26 := Lib.hid g26
        replace g27 := Lib.hid g27
        replace g28 := Lib.hid g28
        replace g29 := Lib.hid g29
        replace g30 := Lib.hid g30
        replace g25 := Lib.hid g25
        replace g31 := Lib.hid g31
        replace g32 := Lib.hid g32
        replace g33 := Lib.hid g33
        replace g14 := Lib.hid g14
        simp [Region.binds] at haf
        have hb5 : bf 5 = true := by simp [haf]
        obtain rfl := g25.out hb5
        go_simp
        exact hK.out _ _ ⟨n1, n2, v26, v27, v28, v29, v30, .tuple #[.agg #[.int .i64 other, .int .i64 b, .int .i64 q, .int .i64 p, .int .i64 0, .bool true, .bool false], .agg #[.int .i64 2, .int .i64 q, .int .i64 r], .int .i64 0], .agg #[.int .i64 other, .int .i64 b, .int .i64 q, .int .i64 p, .int .i64 0, .bool true, .bool false], v32, v33, v12, v13, v14, rfl, hM.out, g26.out, g27.out, g28.out, g29.out, g30.out, g25.out, fun _ => rfl, g32.out, g33.out, g14.out⟩
      · intro bf ac wv hfb haf hJ K' hK
        obtain ⟨n1, n2, v26, v27, v28, v29, v30, v25, v31, v32, v33, v12, v13, v14, rfl, hM, g26, g27, g28, g29, g30, g25, g31, g32, g33, g14⟩ := hJ
        replace hK := Lib.hid hK
        replace hM := Lib.hid hM
        replace g26 := Lib.hid g26
        replace g27 := Lib.hid g27
        replace g28 := Lib.hid g28
        replace g29 := Lib.hid g29
        replace g30 := Lib.hid g30
        replace g25 := Lib.hid g25
        replace g31 := Lib.hid g31
        replace g32 := Lib.hid g32
        replace g33 := Lib.hid g33
        replace g14 := Lib.hid g14
        simp [Region.binds] at haf
        have hb5 : bf 5 = true := by simp [haf]
        obtain rfl := g25.out hb5
        go_simp
        exact hK.out _ _ ⟨n1, n2, v26, v27, v28, v29, v30, .tuple #[.agg #[.int .i64 other, .int .i64 b, .int .i64 q, .int .i64 p, .int .i64 0, .bool true, .bool false], .agg #[.int .i64 2, .int .i64 q, .int .i64 r], .int .i64 0], v31, .agg #[.int .i64 2, .int .i64 q, .int .i64 r], v33, v12, v13, v14, rfl, hM.out, g26.out, g27.out, g28.out, g29.out, g30.out, g25.out, g31.out, fun _ => rfl, g33.out, g14.out⟩
      · intro bf ac wv hfb haf hJ K' hK
        obtain ⟨n1, n2, v26, v27, v28, v29, v30, v25, v31, v32, v33, v12, v13, v14, rfl, hM, g26, g27, g28, g29, g30, g25, g31, g32, g33, g14⟩ := hJ
        replace hK := Lib.hid hK
        replace hM := Lib.hid hM
        replace g26 := Lib.hid g26
        replace g27 := Lib.hid g27
        replace g28 := Lib.hid g28
        replace g29 := Lib.hid g29
        replace g30 := Lib.hid g30
        replace g25 := Lib.hid g25
        replace g31 := Lib.hid g31
        replace g32 := Lib.hid g32
        replace g33 := Lib.hid g33
        replace g14 := Lib.hid g14
        simp [Region.binds] at haf
        have hb5 : bf 5 = true := by simp [haf]
        obtain rfl := g25.out hb5
        go_simp
        exact hK.out _ _ ⟨n1, n2, v26, v27, v28, v29, v30, .tuple #[.agg #[.int .i64 other, .int .i64 b, .int .i64 q, .int .i64 p, .int .i64 0, .bool true, .bool false], .agg #[.int .i64 2, .int .i64 q, .int .i64 r], .int .i64 0], v31, v32, .int .i64 0, v12, v13, v14, rfl, hM.out, g26.out, g27.out, g28.out, g29.out, g30.out, g25.out, g31.out, g32.out, fun _ => rfl, g14.out⟩
      · intro bf ac wv hfb haf hJ K' hK
        obtain ⟨n1, n2, v26, v27, v28, v29, v30, v25, v31, v32, v33, v12, v13, v14, rfl, hM, g26, g27, g28, g29, g30, g25, g31, g32, g33, g14⟩ := hJ
        replace hK := Lib.hid hK
        replace hM := Lib.hid hM
        replace g26 := Lib.hid g26
        replace g27 := Lib.hid g27
        replace g28 := Lib.hid g28
        replace g29 := Lib.hid g29
        replace g30 := Lib.hid g30
        replace g25 := Lib.hid g25
        replace g31 := Lib.hid g31
        replace g32 := Lib.hid g32
        replace g33 := Lib.hid g33
        replace g14 := Lib.hid g14
        obtain ⟨m2, hM2⟩ := hM.out.alloc1 hfb
        have hM2 := Lib.hid hM2
        clear hM
        go_simp
        exact hK.out _ _ ⟨_, m2, v26, v27, v28, v29, v30, v25, v31, v32, v33, _, v13, v14, rfl, hM2.out, g26.out, g27.out, g28.out, g29.out, g30.out, g25.out, g31.out, g32.out, g33.out, g14.out⟩
      · intro bf ac wv hfb haf hJ K' hK
        obtain ⟨n1, n2, v26, v27, v28, v29, v30, v25, v31, v32, v33, v12, v13, v14, rfl, hM, g26, g27, g28, g29, g30, g25, g31, g32, g33, g14⟩ := hJ
        replace hK := Lib.hid hK
        replace hM := Lib.hid hM
        replace g26 := Lib.hid g26
        replace g27 := Lib.hid g27
        replace g28 := Lib.hid g28
        replace g29 := Lib.hid g29
        replace g30 := Lib.hid g30
        replace g25 := Lib.hid g25
        replace g31 := Lib.hid g31
        replace g32 := Lib.hid g32
        replace g33 := Lib.hid g33
        replace g14 := Lib.hid g14
        obtain ⟨m1, hM2⟩ := hM.out.alloc2 hfb
        have hM2 := Lib.hid hM2
        clear hM
        go_simp
        exact hK.out _ _ ⟨m1, _, v26, v27, v28, v29, v30, v25, v31, v32, v33, v12, _, v14, rfl, hM2.out, g26.out, g27.out, g28.out, g29.out, g30.out, g25.out, g31.out, g32.out, g33.out, g14.out⟩
      · intro bf ac wv hfb haf hJ K' hK
        obtain ⟨n1, n2, v26, v27, v28, v29, v30, v25, v31, v32, v33, v12, v13, v14, rfl, hM, g26, g27, g28, g29, g30, g25, g31, g32, g33, g14⟩ := hJ
        replace hK := Lib.hid hK
        replace hM := Lib.hid hM
        replace g26 := Lib.hid g26
        replace g27 := Lib.hid g27
        replace g28 := Lib.hid g28
        replace g29 := Lib.hid g29
        replace g30 := Lib.hid g30
        replace g25 := Lib.hid g25
        replace g31 := Lib.hid g31
        replace g32 := Lib.hid g32
        replace g33 := Lib.hid g33
        replace g14 := Lib.hid g14
        simp [Region.binds] at haf
        have hb6 : bf 6 = true := by simp [haf]
        have hb9 : bf 9 = true := by simp [haf]
        obtain rfl := g31.out hb6
        obtain ⟨rfl, hZ⟩ := hM.out.zero1 hb9 hfb
        have hZ := Lib.hid hZ
        unfold ptr at hM hK ⊢
        have xZ0 := hZ.out.c 0 rfl
        have yZ0 := hZ.out.f 0 (by simp)
        have xZ1 := hZ.out.c 1 rfl
        have yZ1 := hZ.out.f 1 (by simp)
        have xZ2 := hZ.out.c 2 rfl
        have yZ2 := hZ.out.f 2 (by simp)
        have xZ3 := hZ.out.c 3 rfl
        have yZ3 := hZ.out.f 3 (by simp)
        have xZ4 := hZ.out.c 4 rfl
        have yZ4 := hZ.out.f 4 (by simp)
        have xZ5 := hZ.out.c 5 rfl
        have yZ5 := hZ.out.f 5 (by simp)
        have xZ6 := hZ.out.c 6 rfl
        have yZ6 := hZ.out.f 6 (by simp)
        have zZ := hZ.out.2.2
        go_simp
        have hM3 := hM.out; rw [hb9] at hM3
        have hM4 := hM3.store1 (Turned.all7 hZ.out)
        exact hK.out _ _ ⟨n1, n2, v26, v27, v28, v29, v30, v25, .agg #[.int .i64 other, .int .i64 b, .int .i64 q, .int .i64 p, .int .i64 0, .bool true, .bool false], v32, v33, .pointer (some ⟨n1, 0, none⟩), v13, v14, rfl, (by rw [show up bf 11 9 = true from hb9]; exact hM4), g26.out, g27.out, g28.out, g29.out, g30.out, g25.out, g31.out, g32.out, g33.out, g14.out⟩
      · intro bf ac wv hfb haf hJ K' hK
        obtain ⟨n1, n2, v26, v27, v28, v29, v30, v25, v31, v32, v33, v12, v13, v14, rfl, hM, g26, g27, g28, g29, g30, g25, g31, g32, g33, g14⟩ := hJ
        replace hK := Lib.hid hK
        replace hM := Lib.hid hM
        replace g26 := Lib.hid g26
        replace g27 := Lib.hid g27
        replace g28 := Lib.hid g28
        replace g29 := Lib.hid g29
        replace g30 := Lib.hid g30
        replace g25 := Lib.hid g25
        replace g31 := Lib.hid g31
        replace g32 := Lib.hid g32
        replace g33 := Lib.hid g33
        replace g14 := Lib.hid g14
        simp [Region.binds] at haf
        have hb7 : bf 7 = true := by simp [haf]
        have hb10 : bf 10 = true := by simp [haf]
        obtain rfl := g32.out hb7
        obtain ⟨rfl, hZ⟩ := hM.out.zero2 hb10 hfb
        have hZ := Lib.hid hZ
        unfold ptr at hM hK ⊢
        have xZ0 := hZ.out.c 0 rfl
        have yZ0 := hZ.out.f 0 (by simp)
        have xZ1 := hZ.out.c 1 rfl
        have yZ1 := hZ.out.f 1 (by simp)
        have xZ2 := hZ.out.c 2 rfl
        have yZ2 := hZ.out.f 2 (by simp)
        have zZ := hZ.out.2.2
        go_simp
        have hM3 := hM.out; rw [hb10] at hM3
        have hM4 := hM3.store2 (Turned.all3 hZ.out)
        exact hK.out _ _ ⟨n1, n2, v26, v27, v28, v29, v30, v25, v31, .agg #[.int .i64 2, .int .i64 q, .int .i64 r], v33, v12, .pointer (some ⟨n2, 0, none⟩), v14, rfl, (by rw [show up bf 12 10 = true from hb10]; exact hM4), g26.out, g27.out, g28.out, g29.out, g30.out, g25.out, g31.out, g32.out, g33.out, g14.out⟩
      · intro bf ac wv hfb haf hJ K' hK
        obtain ⟨n1, n2, v26, v27, v28, v29, v30, v25, v31, v32, v33, v12, v13, v14, rfl, hM, g26, g27, g28, g29, g30, g25, g31, g32, g33, g14⟩ := hJ
        replace hK := Lib.hid hK
        replace hM := Lib.hid hM
        replace g26 := Lib.hid g26
        replace g27 := Lib.hid g27
        replace g28 := Lib.hid g28
        replace g29 := Lib.hid g29
        replace g30 := Lib.hid g30
        replace g25 := Lib.hid g25
        replace g31 := Lib.hid g31
        replace g32 := Lib.hid g32
        replace g33 := Lib.hid g33
        replace g14 := Lib.hid g14
        simp [Region.binds] at haf
        have hb8 : bf 8 = true := by simp [haf]
        obtain rfl := g33.out hb8
        go_simp
        exact hK.out _ _ ⟨n1, n2, v26, v27, v28, v29, v30, v25, v31, v32, .int .i64 0, v12, v13, .int .i64 0, rfl, hM.out, g26.out, g27.out, g28.out, g29.out, g30.out, g25.out, g31.out, g32.out, g33.out, fun _ => rfl⟩
    · intro bf ac wv hall hJ
      obtain ⟨n1, n2, v26, v27, v28, v29, v30, v25, v31, v32, v33, v12, v13, v14, rfl, hM, g26, g27, g28, g29, g30, g25, g31, g32, g33, g14⟩ := hJ
      obtain rfl := g14 (hall 13 (by decide))
      rw [hall 9 (by decide), hall 10 (by decide), hall 11 (by decide), hall 12 (by decide)] at hM
      obtain ⟨rfl, h1⟩ := hM.c1 rfl
      obtain ⟨rfl, h2⟩ := hM.c2 rfl
      have hB := hM.below
      clear g26 g27 g28 g29 g30 g25 g31 g32 g33 g14 hM hall
      unfold ptr
      go_wp2
      go_meet
      exact ⟨n1, n2, rfl, rfl, rfl, Lib.hid h1, Lib.hid h2, hB⟩
  case rest =>
    obtain ⟨n1, n2, rfl, rfl, rfl, hJ, hH, hB⟩ := hcut
    have KD_8 := Lib.hid (KD_5.out.step hB)
    clear KD_5
    have KA_9 := Lib.hid (KA_6.out.step hB)
    clear KA_6
    have HB10 := Lib.hid (keep2 hB HB7.out)
    clear HB7 hB
    have xC0 : wc.cell? ⟨n2, 0, none⟩ = some (.int .i64 2) := hH.out.c 0 rfl
    have xC1 : wc.cell? ⟨n2, 1, none⟩ = some (.int .i64 q) := hH.out.c 1 rfl
    have xC2 : wc.cell? ⟨n2, 2, none⟩ = some (.int .i64 r) := hH.out.c 2 rfl
    have zC : n2 < wc.heap.size := hH.out.2.2
    have z2C : n2 < wc.heap.size + 1 := by omega
    go_wp2_with fail
    refine (racc_at q false _ hb.out).mono ?_
    rintro e _ ⟨rfl, rfl⟩
    go_wp2
    go_ret
    exact ⟨rfl, HB10.out⟩
set_option maxRecDepth 100000 in
set_option maxHeartbeats 4000000 in
theorem codes_same (code other a b p q r u v : Int) (w : World) (hp : pw 7 a = p) (hq : pw 7 b = q) (hb : accB q = true) (hu : code % 2147483647 = u) (hv : other % 2147483647 = v) (hw1 : RW other b q 0 0 true false 1 p 0 0 (jc other b q p 0 true false) (hc3 2 q r)) (huv : u = v) : Calls Try.prog 5 #[.int .i64 code, .int .i64 other, .int .i64 a, .int .i64 b] w fun e w' => e = .returned (.bool true) ∧ Below w.heap.size w w' := by
  subst huv
  replace hp := Lib.hid hp
  replace hq := Lib.hid hq
  replace hb := Lib.hid hb
  replace hw1 := Lib.hid hw1
  replace hu := Lib.hid hu
  replace hv := Lib.hid hv
  have HB0 := Lib.hid (Below.refl w.heap.size w)
  go_enter Try.func5, Try.ntmps5
  go_wp2_with fail
  refine (head_any _).mono ?_
  rintro e u1 ⟨rfl, b1⟩
  have HB1 := Lib.hid (keep2 b1 HB0.out)
  clear HB0 b1
  go_wp2_with fail
  refine (device_is code a p _ hp.out).mono ?_
  rintro e u2 ⟨rfl, b2⟩
  have HB2 := Lib.hid (keep2 b2 HB1.out)
  clear HB1 b2
  have KD_3 := Lib.hid (Cs.new u2 (u2.heap.size) #[.int .i64 code, .int .i64 a, .int .i64 p, .int .i64 0, .int .i64 0, .bool false, .bool false] 23 (by simp))
  have HB4 : Hid (Below w.heap.size w (u2.alloc (.cells #[.int .i64 code, .int .i64 a, .int .i64 p, .int .i64 0, .int .i64 0, .bool false, .bool false] 23))) := HB2.out.alloc HB2.out.size _
  clear HB2
  have KD_5 := Lib.hid (KD_3.out.alloc (.cells #[.int .i64 1, .int .i64 p, .int .i64 0] 25))
  clear KD_3
  have KA_6 := Lib.hid (Cs.new (u2.alloc (.cells #[.int .i64 code, .int .i64 a, .int .i64 p, .int .i64 0, .int .i64 0, .bool false, .bool false] 23)) (u2.heap.size + 1) #[.int .i64 1, .int .i64 p, .int .i64 0] 25 (by simp))
  have HB7 : Hid (Below w.heap.size w ((u2.alloc (.cells #[.int .i64 code, .int .i64 a, .int .i64 p, .int .i64 0, .int .i64 0, .bool false, .bool false] 23)).alloc (.cells #[.int .i64 1, .int .i64 p, .int .i64 0] 25))) := HB4.out.alloc HB4.out.size _
  clear HB4
  go_upto_region 3 with fail
  obtain ⟨wq, hwq⟩ : ∃ wq, ((u2.alloc (.cells #[.int .i64 code, .int .i64 a, .int .i64 p, .int .i64 0, .int .i64 0, .bool false, .bool false] 23)).alloc (.cells #[.int .i64 1, .int .i64 p, .int .i64 0] 25)) = wq := ⟨_, rfl⟩
  rw [hwq] at KD_5
  rw [hwq] at KA_6
  rw [hwq] at HB7 ⊢
  clear hwq
  go_cut [12, 13, 14] from 25 to 33 (fun pc qc rc wc => ∃ n1 n2 : Nat, pc = .pointer (some ⟨n1, 0, none⟩) ∧ qc = .pointer (some ⟨n2, 0, none⟩) ∧ rc = .int .i64 0 ∧ Hid (Cs wc n1 #[.int .i64 other, .int .i64 b, .int .i64 q, .int .i64 p, .int .i64 0, .bool true, .bool false]) ∧ Hid (Cs wc n2 #[.int .i64 2, .int .i64 q, .int .i64 r]) ∧ Below wq.heap.size wq wc)
  case first =>
    refine region_inv (fun bf ac wv => ∃ (n1 n2 : Nat) (v26 v27 v28 v29 v30 v25 v31 v32 v33 v12 v13 v14 : Value), ac = { tmps := #[.int .i64 code, .int .i64 other, .int .i64 a, .int .i64 b, undef, undef, undef, undef, .bool false, .bool true, .pointer (some ⟨u2.heap.size, 0, none⟩), .pointer (some ⟨u2.heap.size + 1, 0, none⟩), v12, v13, v14, undef, undef, undef, .bool true, .tuple #[.agg #[.int .i64 code, .int .i64 a, .int .i64 p, .int .i64 0, .int .i64 0, .bool false, .bool false], .agg #[.int .i64 1, .int .i64 p, .int .i64 0]], .int .i64 code, .int .i64 a, .tuple #[.agg #[.int .i64 code, .int .i64 a, .int .i64 p, .int .i64 0, .int .i64 0, .bool false, .bool false], .agg #[.int .i64 1, .int .i64 p, .int .i64 0]], .agg #[.int .i64 code, .int .i64 a, .int .i64 p, .int .i64 0, .int .i64 0, .bool false, .bool false], .agg #[.int .i64 1, .int .i64 p, .int .i64 0], v25, v26, v27, v28, v29, v30, v31, v32, v33, undef, undef, undef, undef, undef, undef, undef, undef, undef, undef, undef, undef, undef, undef, undef, undef, undef, undef, undef, undef, undef, undef, undef, undef, undef, undef, undef, undef, undef, undef, undef, undef, undef, undef, undef, undef, undef, undef], defers := [] } ∧ Mem wq wv n1 n2 v12 v13 (bf 9) (bf 11) (bf 10) (bf 12) #[.int .i64 other, .int .i64 b, .int .i64 q, .int .i64 p, .int .i64 0, .bool true, .bool false] #[.int .i64 2, .int .i64 q, .int .i64 r] ∧ (bf 0 = true → v26 = .int .i64 other) ∧ (bf 1 = true → v27 = .int .i64 b) ∧ (bf 2 = true → v28 = .agg #[.int .i64 other, .int .i64 b, .int .i64 q, .int .i64 0, .int .i64 0, .bool true, .bool false]) ∧ (bf 3 = true → v29 = .agg #[.int .i64 1, .int .i64 p, .int .i64 0]) ∧ (bf 4 = true → v30 = .tuple #[.agg #[.int .i64 other, .int .i64 b, .int .i64 q, .int .i64 p, .int .i64 0, .bool true, .bool false], .agg #[.int .i64 2, .int .i64 q, .int .i64 r], .int .i64 0]) ∧ (bf 5 = true → v25 = .tuple #[.agg #[.int .i64 other, .int .i64 b, .int .i64 q, .int .i64 p, .int .i64 0, .bool true, .bool false], .agg #[.int .i64 2, .int .i64 q, .int .i64 r], .int .i64 0]) ∧ (bf 6 = true → v31 = .agg #[.int .i64 other, .int .i64 b, .int .i64 q, .int .i64 p, .int .i64 0, .bool true, .bool false]) ∧ (bf 7 = true → v32 = .agg #[.int .i64 2, .int .i64 q, .int .i64 r]) ∧ (bf 8 = true → v33 = .int .i64 0) ∧ (bf 13 = true → v14 = .int .i64 0)) (by kernel_rfl) (by decide +kernel) ?_ ?_ ?_
    · exact ⟨_, _, _, _, _, _, _, _, _, _, _, _, _, _, rfl, Mem.start _ _ _ _ _, (by simp), (by simp), (by simp), (by simp), (by simp), (by simp), (by simp), (by simp), (by simp), (by simp)⟩
    · refine ⟨?_, ?_, ?_, ?_, ?_, ?_, ?_, ?_, ?_, ?_, ?_, ?_, ?_, ?_, trivial⟩
      · intro bf ac wv hfb haf hJ K' hK
        obtain ⟨n1, n2, v26, v27, v28, v29, v30, v25, v31, v32, v33, v12, v13, v14, rfl, hM, g26, g27, g28, g29, g30, g25, g31, g32, g33, g14⟩ := hJ
        replace hK := Lib.hid hK
        replace hM := Lib.hid hM
        replace g26 := Lib.hid g26
        replace g27 := Lib.hid g27
        replace g28 := Lib.hid g28
        replace g29 := Lib.hid g29
        replace g30 := Lib.hid g30
        replace g25 := Lib.hid g25
        replace g31 := Lib.hid g31
        replace g32 := Lib.hid g32
        replace g33 := Lib.hid g33
        replace g14 := Lib.hid g14
        go_simp
        exact hK.out _ _ ⟨n1, n2, .int .i64 other, v27, v28, v29, v30, v25, v31, v32, v33, v12, v13, v14, rfl, hM.out, fun _ => rfl, g27.out, g28.out, g29.out, g30.out, g25.out, g31.out, g32.out, g33.out, g14.out⟩
      · intro bf ac wv hfb haf hJ K' hK
        obtain ⟨n1, n2, v26, v27, v28, v29, v30, v25, v31, v32, v33, v12, v13, v14, rfl, hM, g26, g27, g28, g29, g30, g25, g31, g32, g33, g14⟩ := hJ
        replace hK := Lib.hid hK
        replace hM := Lib.hid hM
        replace g26 := Lib.hid g26
        replace g27 := Lib.hid g27
        replace g28 := Lib.hid g28
        replace g29 := Lib.hid g29
        replace g30 := Lib.hid g30
        replace g25 := Lib.hid g25
        replace g31 := Lib.hid g31
        replace g32 := Lib.hid g32
        replace g33 := Lib.hid g33
        replace g14 := Lib.hid g14
        go_simp
        exact hK.out _ _ ⟨n1, n2, v26, .int .i64 b, v28, v29, v30, v25, v31, v32, v33, v12, v13, v14, rfl, hM.out, g26.out, fun _ => rfl, g28.out, g29.out, g30.out, g25.out, g31.out, g32.out, g33.out, g14.out⟩
      · intro bf ac wv hfb haf hJ K' hK
        obtain ⟨n1, n2, v26, v27, v28, v29, v30, v25, v31, v32, v33, v12, v13, v14, rfl, hM, g26, g27, g28, g29, g30, g25, g31, g32, g33, g14⟩ := hJ
        replace hK := Lib.hid hK
        replace hM := Lib.hid hM
        replace g26 := Lib.hid g26
        replace g27 := Lib.hid g27
        replace g28 := Lib.hid g28
        replace g29 := Lib.hid g29
        replace g30 := Lib.hid g30
        replace g25 := Lib.hid g25
        replace g31 := Lib.hid g31
        replace g32 := Lib.hid g32
        replace g33 := Lib.hid g33
        replace g14 := Lib.hid g14
        simp [Region.binds] at haf
        have hb0 : bf 0 = true := by simp [haf]
        have hb1 : bf 1 = true := by simp [haf]
        obtain rfl := g26.out hb0
        obtain rfl := g27.out hb1
        go_simp
        go_at_call 14
        refine (hub_is other b q _ hq.out).mono ?_
        rintro e w4 ⟨rfl, b4⟩
        exact hK.out _ _ ⟨n1, n2, .int .i64 other, .int .i64 b, .agg #[.int .i64 other, .int .i64 b, .int .i64 q, .int .i64 0, .int .i64 0, .bool true, .bool false], v29, v30, v25, v31, v32, v33, v12, v13, v14, rfl, hM.out.step b4, g26.out, g27.out, fun _ => rfl, g29.out, g30.out, g25.out, g31.out, g32.out, g33.out, g14.out⟩
      · intro bf ac wv hfb haf hJ K' hK
        obtain ⟨n1, n2, v26, v27, v28, v29, v30, v25, v31, v32, v33, v12, v13, v14, rfl, hM, g26, g27, g28, g29, g30, g25, g31, g32, g33, g14⟩ := hJ
        replace hK := Lib.hid hK
        replace hM := Lib.hid hM
        replace g26 := Lib.hid g26
        replace g27 := Lib.hid g27
        replace g28 := Lib.hid g28
        replace g29 := Lib.hid g29
        replace g30 := Lib.hid g30
        replace g25 := Lib.hid g25
        replace g31 := Lib.hid g31
        replace g32 := Lib.hid g32
        replace g33 := Lib.hid g33
        replace g14 := Lib.hid g14
        have hA := KA_6.out.step hM.out.below
        have xA0 := hA.c 0 rfl
        have xA1 := hA.c 1 rfl
        have xA2 := hA.c 2 rfl
        have zA := hA.2.2
        clear hA
        go_simp
        exact hK.out _ _ ⟨n1, n2, v26, v27, v28, .agg #[.int .i64 1, .int .i64 p, .int .i64 0], v30, v25, v31, v32, v33, v12, v13, v14, rfl, hM.out, g26.out, g27.out, g28.out, fun _ => rfl, g30.out, g25.out, g31.out, g32.out, g33.out, g14.out⟩
      · intro bf ac wv hfb haf hJ K' hK
        obtain ⟨n1, n2, v26, v27, v28, v29, v30, v25, v31, v32, v33, v12, v13, v14, rfl, hM, g26, g27, g28, g29, g30, g25, g31, g32, g33, g14⟩ := hJ
        replace hK := Lib.hid hK
        replace hM := Lib.hid hM
        replace g26 := Lib.hid g26
        replace g27 := Lib.hid g27
        replace g28 := Lib.hid g28
        replace g29 := Lib.hid g29
        replace g30 := Lib.hid g30
        replace g25 := Lib.hid g25
        replace g31 := Lib.hid g31
        replace g32 := Lib.hid g32
        replace g33 := Lib.hid g33
        replace g14 := Lib.hid g14
        simp [Region.binds] at haf
        have hb2 : bf 2 = true := by simp [haf]
        have hb3 : bf 3 = true := by simp [haf]
        obtain rfl := g28.out hb2
        obtain rfl := g29.out hb3
        go_simp
        go_at_call 12
        refine (recv_is other b q 0 0 true false 1 p 0 0 _ _ _ hw1.out).mono ?_
        rintro e w5 ⟨rfl, b5⟩
        exact hK.out _ _ ⟨n1, n2, v26, v27, .agg #[.int .i64 other, .int .i64 b, .int .i64 q, .int .i64 0, .int .i64 0, .bool true, .bool false], .agg #[.int .i64 1, .int .i64 p, .int .i64 0], .tuple #[.agg #[.int .i64 other, .int .i64 b, .int .i64 q, .int .i64 p, .int .i64 0, .bool true, .bool false], .agg #[.int .i64 2, .int .i64 q, .int .i64 r], .int .i64 0], v25, v31, v32, v33, v12, v13, v14, rfl, hM.out.step b5, g26.out, g27.out, g28.out, g29.out, fun _ => rfl, g25.out, g31.out, g32.out, g33.out, g14.out⟩
      · intro bf ac wv hfb haf hJ K' hK
        obtain ⟨n1, n2, v26, v27, v28, v29, v30, v25, v31, v32, v33, v12, v13, v14, rfl, hM, g26, g27, g28, g29, g30, g25, g31, g32, g33, g14⟩ := hJ
        replace hK := Lib.hid hK
        replace hM := Lib.hid hM
        replace g26 := Lib.hid g26
        replace g27 := Lib.hid g27
        replace g28 := Lib.hid g28
        replace g29 := Lib.hid g29
        replace g30 := Lib.hid g30
        replace g25 := Lib.hid g25
        replace g31 := Lib.hid g31
        replace g32 := Lib.hid g32
        replace g33 := Lib.hid g33
        replace g14 := Lib.hid g14
        simp [Region.binds] at haf
        have hb4 : bf 4 = true := by simp [haf]
        obtain rfl := g30.out hb4
        go_simp
        exact hK.out _ _ ⟨n1, n2, v26, v27, v28, v29, .tuple #[.agg #[.int .i64 other, .int .i64 b, .int .i64 q, .int .i64 p, .int .i64 0, .bool true, .bool false], .agg #[.int .i64 2, .int .i64 q, .int .i64 r], .int .i64 0], .tuple #[.agg #[.int .i64 other, .int .i64 b, .int .i64 q, .int .i64 p, .int .i64 0, .bool true, .bool false], .agg #[.int .i64 2, .int .i64 q, .int .i64 r], .int .i64 0], v31, v32, v33, v12, v13, v14, rfl, hM.out, g26.out, g27.out, g28.out, g29.out, g30.out, fun _ => rfl, g31.out, g32.out, g33.out, g14.out⟩
      · intro bf ac wv hfb haf hJ K' hK
        obtain ⟨n1, n2, v26, v27, v28, v29, v30, v25, v31, v32, v33, v12, v13, v14, rfl, hM, g26, g27, g28, g29, g30, g25, g31, g32, g33, g14⟩ := hJ
        replace hK := Lib.hid hK
        replace hM := Lib.hid hM
        replace g26 := Lib.hid g26
        replace g27 := Lib.hid g27
        replace g28 := Lib.hid g28
        replace g29 := Lib.hid g29
        replace g30 := Lib.hid g30
        replace g25 := Lib.hid g25
        replace g31 := Lib.hid g31
        replace g32 := Lib.hid g32
        replace g33 := Lib.hid g33
        replace g14 := Lib.hid g14
        simp [Region.binds] at haf
        have hb5 : bf 5 = true := by simp [haf]
        obtain rfl := g25.out hb5
        go_simp
        exact hK.out _ _ ⟨n1, n2, v26, v27, v28, v29, v30, .tuple #[.agg #[.int .i64 other, .int .i64 b, .int .i64 q, .int .i64 p, .int .i64 0, .bool true, .bool false], .agg #[.int .i64 2, .int .i64 q, .int .i64 r], .int .i64 0], .agg #[.int .i64 other, .int .i64 b, .int .i64 q, .int .i64 p, .int .i64 0, .bool true, .bool false], v32, v33, v12, v13, v14, rfl, hM.out, g26.out, g27.out, g28.out, g29.out, g30.out, g25.out, fun _ => rfl, g32.out, g33.out, g14.out⟩
      · intro bf ac wv hfb haf hJ K' hK
        obtain ⟨n1, n2, v26, v27, v28, v29, v30, v25, v31, v32, v33, v12, v13, v14, rfl, hM, g26, g27, g28, g29, g30, g25, g31, g32, g33, g14⟩ := hJ
        replace hK := Lib.hid hK
        replace hM := Lib.hid hM
        replace g26 := Lib.hid g26
        replace g27 := Lib.hid g27
        replace g28 := Lib.hid g28
        replace g29 := Lib.hid g29
        replace g30 := Lib.hid g30
        replace g25 := Lib.hid g25
        replace g31 := Lib.hid g31
        replace g32 := Lib.hid g32
        replace g33 := Lib.hid g33
        replace g14 := Lib.hid g14
        simp [Region.binds] at haf
        have hb5 : bf 5 = true := by simp [haf]
        obtain rfl := g25.out hb5
        go_simp
        exact hK.out _ _ ⟨n1, n2, v26, v27, v28, v29, v30, .tuple #[.agg #[.int .i64 other, .int .i64 b, .int .i64 q, .int .i64 p, .int .i64 0, .bool true, .bool false], .agg #[.int .i64 2, .int .i64 q, .int .i64 r], .int .i64 0], v31, .agg #[.int .i64 2, .int .i64 q, .int .i64 r], v33, v12, v13, v14, rfl, hM.out, g26.out, g27.out, g28.out, g29.out, g30.out, g25.out, g31.out, fun _ => rfl, g33.out, g14.out⟩
      · intro bf ac wv hfb haf hJ K' hK
        obtain ⟨n1, n2, v26, v27, v28, v29, v30, v25, v31, v32, v33, v12, v13, v14, rfl, hM, g26, g27, g28, g29, g30, g25, g31, g32, g33, g14⟩ := hJ
        replace hK := Lib.hid hK
        replace hM := Lib.hid hM
        replace g26 := Lib.hid g26
        replace g27 := Lib.hid g27
        replace g28 := Lib.hid g28
        replace g29 := Lib.hid g29
        replace g30 := Lib.hid g30
        replace g25 := Lib.hid g25
        replace g31 := Lib.hid g31
        replace g32 := Lib.hid g32
        replace g33 := Lib.hid g33
        replace g14 := Lib.hid g14
        simp [Region.binds] at haf
        have hb5 : bf 5 = true := by simp [haf]
        obtain rfl := g25.out hb5
        go_simp
        exact hK.out _ _ ⟨n1, n2, v26, v27, v28, v29, v30, .tuple #[.agg #[.int .i64 other, .int .i64 b, .int .i64 q, .int .i64 p, .int .i64 0, .bool true, .bool false], .agg #[.int .i64 2, .int .i64 q, .int .i64 r], .int .i64 0], v31, v32, .int .i64 0, v12, v13, v14, rfl, hM.out, g26.out, g27.out, g28.out, g29.out, g30.out, g25.out, g31.out, g32.out, fun _ => rfl, g14.out⟩
      · intro bf ac wv hfb haf hJ K' hK
        obtain ⟨n1, n2, v26, v27, v28, v29, v30, v25, v31, v32, v33, v12, v13, v14, rfl, hM, g26, g27, g28, g29, g30, g25, g31, g32, g33, g14⟩ := hJ
        replace hK := Lib.hid hK
        replace hM := Lib.hid hM
        replace g26 := Lib.hid g26
        replace g27 := Lib.hid g27
        replace g28 := Lib.hid g28
        replace g29 := Lib.hid g29
        replace g30 := Lib.hid g30
        replace g25 := Lib.hid g25
        replace g31 := Lib.hid g31
        replace g32 := Lib.hid g32
        replace g33 := Lib.hid g33
        replace g14 := Lib.hid g14
        obtain ⟨m2, hM2⟩ := hM.out.alloc1 hfb
        have hM2 := Lib.hid hM2
        clear hM
        go_simp
        exact hK.out _ _ ⟨_, m2, v26, v27, v28, v29, v30, v25, v31, v32, v33, _, v13, v14, rfl, hM2.out, g26.out, g27.out, g28.out, g29.out, g30.out, g25.out, g31.out, g32.out, g33.out, g14.out⟩
      · intro bf ac wv hfb haf hJ K' hK
        obtain ⟨n1, n2, v26, v27, v28, v29, v30, v25, v31, v32, v33, v12, v13, v14, rfl, hM, g26, g27, g28, g29, g30, g25, g31, g32, g33, g14⟩ := hJ
        replace hK := Lib.hid hK
        replace hM := Lib.hid hM
        replace g26 := Lib.hid g26
        replace g27 := Lib.hid g27
        replace g28 := Lib.hid g28
        replace g29 := Lib.hid g29
        replace g30 := Lib.hid g30
        replace g25 := Lib.hid g25
        replace g31 := Lib.hid g31
        replace g32 := Lib.hid g32
        replace g33 := Lib.hid g33
        replace g14 := Lib.hid g14
        obtain ⟨m1, hM2⟩ := hM.out.alloc2 hfb
        have hM2 := Lib.hid hM2
        clear hM
        go_simp
        exact hK.out _ _ ⟨m1, _, v26, v27, v28, v29, v30, v25, v31, v32, v33, v12, _, v14, rfl, hM2.out, g26.out, g27.out, g28.out, g29.out, g30.out, g25.out, g31.out, g32.out, g33.out, g14.out⟩
      · intro bf ac wv hfb haf hJ K' hK
        obtain ⟨n1, n2, v26, v27, v28, v29, v30, v25, v31, v32, v33, v12, v13, v14, rfl, hM, g26, g27, g28, g29, g30, g25, g31, g32, g33, g14⟩ := hJ
        replace hK := Lib.hid hK
        replace hM := Lib.hid hM
        replace g26 := Lib.hid g26
        replace g27 := Lib.hid g27
        replace g28 := Lib.hid g28
        replace g29 := Lib.hid g29
        replace g30 := Lib.hid g30
        replace g25 := Lib.hid g25
        replace g31 := Lib.hid g31
        replace g32 := Lib.hid g32
        replace g33 := Lib.hid g33
        replace g14 := Lib.hid g14
        simp [Region.binds] at haf
        have hb6 : bf 6 = true := by simp [haf]
        have hb9 : bf 9 = true := by simp [haf]
        obtain rfl := g31.out hb6
        obtain ⟨rfl, hZ⟩ := hM.out.zero1 hb9 hfb
        have hZ := Lib.hid hZ
        unfold ptr at hM hK ⊢
        have xZ0 := hZ.out.c 0 rfl
        have yZ0 := hZ.out.f 0 (by simp)
        have xZ1 := hZ.out.c 1 rfl
        have yZ1 := hZ.out.f 1 (by simp)
        have xZ2 := hZ.out.c 2 rfl
        have yZ2 := hZ.out.f 2 (by simp)
        have xZ3 := hZ.out.c 3 rfl
        have yZ3 := hZ.out.f 3 (by simp)
        have xZ4 := hZ.out.c 4 rfl
        have yZ4 := hZ.out.f 4 (by simp)
        have xZ5 := hZ.out.c 5 rfl
        have yZ5 := hZ.out.f 5 (by simp)
        have xZ6 := hZ.out.c 6 rfl
        have yZ6 := hZ.out.f 6 (by simp)
        have zZ := hZ.out.2.2
        go_simp
        have hM3 := hM.out; rw [hb9] at hM3
        have hM4 := hM3.store1 (Turned.all7 hZ.out)
        exact hK.out _ _ ⟨n1, n2, v26, v27, v28, v29, v30, v25, .agg #[.int .i64 other, .int .i64 b, .int .i64 q, .int .i64 p, .int .i64 0, .bool true, .bool false], v32, v33, .pointer (some ⟨n1, 0, none⟩), v13, v14, rfl, (by rw [show up bf 11 9 = true from hb9]; exact hM4), g26.out, g27.out, g28.out, g29.out, g30.out, g25.out, g31.out, g32.out, g33.out, g14.out⟩
      · intro bf ac wv hfb haf hJ K' hK
        obtain ⟨n1, n2, v26, v27, v28, v29, v30, v25, v31, v32, v33, v12, v13, v14, rfl, hM, g26, g27, g28, g29, g30, g25, g31, g32, g33, g14⟩ := hJ
        replace hK := Lib.hid hK
        replace hM := Lib.hid hM
        replace g26 := Lib.hid g26
        replace g27 := Lib.hid g27
        replace g28 := Lib.hid g28
        replace g29 := Lib.hid g29
        replace g30 := Lib.hid g30
        replace g25 := Lib.hid g25
        replace g31 := Lib.hid g31
        replace g32 := Lib.hid g32
        replace g33 := Lib.hid g33
        replace g14 := Lib.hid g14
        simp [Region.binds] at haf
        have hb7 : bf 7 = true := by simp [haf]
        have hb10 : bf 10 = true := by simp [haf]
        obtain rfl := g32.out hb7
        obtain ⟨rfl, hZ⟩ := hM.out.zero2 hb10 hfb
        have hZ := Lib.hid hZ
        unfold ptr at hM hK ⊢
        have xZ0 := hZ.out.c 0 rfl
        have yZ0 := hZ.out.f 0 (by simp)
        have xZ1 := hZ.out.c 1 rfl
        have yZ1 := hZ.out.f 1 (by simp)
        have xZ2 := hZ.out.c 2 rfl
        have yZ2 := hZ.out.f 2 (by simp)
        have zZ := hZ.out.2.2
        go_simp
        have hM3 := hM.out; rw [hb10] at hM3
        have hM4 := hM3.store2 (Turned.all3 hZ.out)
        exact hK.out _ _ ⟨n1, n2, v26, v27, v28, v29, v30, v25, v31, .agg #[.int .i64 2, .int .i64 q, .int .i64 r], v33, v12, .pointer (some ⟨n2, 0, none⟩), v14, rfl, (by rw [show up bf 12 10 = true from hb10]; exact hM4), g26.out, g27.out, g28.out, g29.out, g30.out, g25.out, g31.out, g32.out, g33.out, g14.out⟩
      · intro bf ac wv hfb haf hJ K' hK
        obtain ⟨n1, n2, v26, v27, v28, v29, v30, v25, v31, v32, v33, v12, v13, v14, rfl, hM, g26, g27, g28, g29, g30, g25, g31, g32, g33, g14⟩ := hJ
        replace hK := Lib.hid hK
        replace hM := Lib.hid hM
        replace g26 := Lib.hid g26
        replace g27 := Lib.hid g27
        replace g28 := Lib.hid g28
        replace g29 := Lib.hid g29
        replace g30 := Lib.hid g30
        replace g25 := Lib.hid g25
        replace g31 := Lib.hid g31
        replace g32 := Lib.hid g32
        replace g33 := Lib.hid g33
        replace g14 := Lib.hid g14
        simp [Region.binds] at haf
        have hb8 : bf 8 = true := by simp [haf]
        obtain rfl := g33.out hb8
        go_simp
        exact hK.out _ _ ⟨n1, n2, v26, v27, v28, v29, v30, v25, v31, v32, .int .i64 0, v12, v13, .int .i64 0, rfl, hM.out, g26.out, g27.out, g28.out, g29.out, g30.out, g25.out, g31.out, g32.out, g33.out, fun _ => rfl⟩
    · intro bf ac wv hall hJ
      obtain ⟨n1, n2, v26, v27, v28, v29, v30, v25, v31, v32, v33, v12, v13, v14, rfl, hM, g26, g27, g28, g29, g30, g25, g31, g32, g33, g14⟩ := hJ
      obtain rfl := g14 (hall 13 (by decide))
      rw [hall 9 (by decide), hall 10 (by decide), hall 11 (by decide), hall 12 (by decide)] at hM
      obtain ⟨rfl, h1⟩ := hM.c1 rfl
      obtain ⟨rfl, h2⟩ := hM.c2 rfl
      have hB := hM.below
      clear g26 g27 g28 g29 g30 g25 g31 g32 g33 g14 hM hall
      unfold ptr
      go_wp2
      go_meet
      exact ⟨n1, n2, rfl, rfl, rfl, Lib.hid h1, Lib.hid h2, hB⟩
  case rest =>
    obtain ⟨n1, n2, rfl, rfl, rfl, hJ, hH, hB⟩ := hcut
    have KD_8 := Lib.hid (KD_5.out.step hB)
    clear KD_5
    have KA_9 := Lib.hid (KA_6.out.step hB)
    clear KA_6
    have HB10 := Lib.hid (keep2 hB HB7.out)
    clear HB7 hB
    have xC0 : wc.cell? ⟨n2, 0, none⟩ = some (.int .i64 2) := hH.out.c 0 rfl
    have xC1 : wc.cell? ⟨n2, 1, none⟩ = some (.int .i64 q) := hH.out.c 1 rfl
    have xC2 : wc.cell? ⟨n2, 2, none⟩ = some (.int .i64 r) := hH.out.c 2 rfl
    have zC : n2 < wc.heap.size := hH.out.2.2
    have z2C : n2 < wc.heap.size + 1 := by omega
    go_wp2_with fail
    refine (racc_at q true _ hb.out).mono ?_
    rintro e _ ⟨rfl, rfl⟩
    go_wp2_with fail
    refine (rrem_any code 2147483647 _ (by omega) (by omega)).mono ?_
    rintro e _ ⟨rfl, rfl⟩
    rw [hu.out]
    go_wp2_with fail
    refine (rrem_any other 2147483647 _ (by omega) (by omega)).mono ?_
    rintro e _ ⟨rfl, rfl⟩
    rw [hv.out]
    clear xC0 xC1 xC2 zC z2C
    go_wp2
    go_ret
    exact ⟨rfl, HB10.out⟩
set_option maxRecDepth 100000 in
set_option maxHeartbeats 4000000 in
theorem codes_yes (code other a b p q r u v : Int) (w : World) (hp : pw 7 a = p) (hq : pw 7 b = q) (hb : accB q = true) (hu : code % 2147483647 = u) (hv : other % 2147483647 = v) (hw1 : RW other b q 0 0 true false 1 p 0 0 (jc other b q p 0 true false) (hc3 2 q r)) (huv : u ≠ v) (hw2 : RW code a p 0 0 false false 2 q r 17 zj zh) : Calls Try.prog 5 #[.int .i64 code, .int .i64 other, .int .i64 a, .int .i64 b] w fun e w' => e = .returned (.bool true) ∧ Below w.heap.size w w' := by
  have h1 : (u == v) = false := by simpa using huv
  have h2 : decide (u = v) = false := by simpa using huv
  replace hp := Lib.hid hp
  replace hq := Lib.hid hq
  replace hb := Lib.hid hb
  replace hw1 := Lib.hid hw1
  replace hu := Lib.hid hu
  replace hv := Lib.hid hv
  replace hw2 := Lib.hid hw2
  have HB0 := Lib.hid (Below.refl w.heap.size w)
  go_enter Try.func5, Try.ntmps5
  go_wp2_with fail
  refine (head_any _).mono ?_
  rintro e u1 ⟨rfl, b1⟩
  have HB1 := Lib.hid (keep2 b1 HB0.out)
  clear HB0 b1
  go_wp2_with fail
  refine (device_is code a p _ hp.out).mono ?_
  rintro e u2 ⟨rfl, b2⟩
  have HB2 := Lib.hid (keep2 b2 HB1.out)
  clear HB1 b2
  have KD_3 := Lib.hid (Cs.new u2 (u2.heap.size) #[.int .i64 code, .int .i64 a, .int .i64 p, .int .i64 0, .int .i64 0, .bool false, .bool false] 23 (by simp))
  have HB4 : Hid (Below w.heap.size w (u2.alloc (.cells #[.int .i64 code, .int .i64 a, .int .i64 p, .int .i64 0, .int .i64 0, .bool false, .bool false] 23))) := HB2.out.alloc HB2.out.size _
  clear HB2
  have KD_5 := Lib.hid (KD_3.out.alloc (.cells #[.int .i64 1, .int .i64 p, .int .i64 0] 25))
  clear KD_3
  have KA_6 := Lib.hid (Cs.new (u2.alloc (.cells #[.int .i64 code, .int .i64 a, .int .i64 p, .int .i64 0, .int .i64 0, .bool false, .bool false] 23)) (u2.heap.size + 1) #[.int .i64 1, .int .i64 p, .int .i64 0] 25 (by simp))
  have HB7 : Hid (Below w.heap.size w ((u2.alloc (.cells #[.int .i64 code, .int .i64 a, .int .i64 p, .int .i64 0, .int .i64 0, .bool false, .bool false] 23)).alloc (.cells #[.int .i64 1, .int .i64 p, .int .i64 0] 25))) := HB4.out.alloc HB4.out.size _
  clear HB4
  go_upto_region 3 with fail
  obtain ⟨wq, hwq⟩ : ∃ wq, ((u2.alloc (.cells #[.int .i64 code, .int .i64 a, .int .i64 p, .int .i64 0, .int .i64 0, .bool false, .bool false] 23)).alloc (.cells #[.int .i64 1, .int .i64 p, .int .i64 0] 25)) = wq := ⟨_, rfl⟩
  rw [hwq] at KD_5
  rw [hwq] at KA_6
  rw [hwq] at HB7 ⊢
  clear hwq
  go_cut [12, 13, 14] from 25 to 33 (fun pc qc rc wc => ∃ n1 n2 : Nat, pc = .pointer (some ⟨n1, 0, none⟩) ∧ qc = .pointer (some ⟨n2, 0, none⟩) ∧ rc = .int .i64 0 ∧ Hid (Cs wc n1 #[.int .i64 other, .int .i64 b, .int .i64 q, .int .i64 p, .int .i64 0, .bool true, .bool false]) ∧ Hid (Cs wc n2 #[.int .i64 2, .int .i64 q, .int .i64 r]) ∧ Below wq.heap.size wq wc)
  case first =>
    refine region_inv (fun bf ac wv => ∃ (n1 n2 : Nat) (v26 v27 v28 v29 v30 v25 v31 v32 v33 v12 v13 v14 : Value), ac = { tmps := #[.int .i64 code, .int .i64 other, .int .i64 a, .int .i64 b, undef, undef, undef, undef, .bool false, .bool true, .pointer (some ⟨u2.heap.size, 0, none⟩), .pointer (some ⟨u2.heap.size + 1, 0, none⟩), v12, v13, v14, undef, undef, undef, .bool true, .tuple #[.agg #[.int .i64 code, .int .i64 a, .int .i64 p, .int .i64 0, .int .i64 0, .bool false, .bool false], .agg #[.int .i64 1, .int .i64 p, .int .i64 0]], .int .i64 code, .int .i64 a, .tuple #[.agg #[.int .i64 code, .int .i64 a, .int .i64 p, .int .i64 0, .int .i64 0, .bool false, .bool false], .agg #[.int .i64 1, .int .i64 p, .int .i64 0]], .agg #[.int .i64 code, .int .i64 a, .int .i64 p, .int .i64 0, .int .i64 0, .bool false, .bool false], .agg #[.int .i64 1, .int .i64 p, .int .i64 0], v25, v26, v27, v28, v29, v30, v31, v32, v33, undef, undef, undef, undef, undef, undef, undef, undef, undef, undef, undef, undef, undef, undef, undef, undef, undef, undef, undef, undef, undef, undef, undef, undef, undef, undef, undef, undef, undef, undef, undef, undef, undef, undef, undef, undef, undef, undef], defers := [] } ∧ Mem wq wv n1 n2 v12 v13 (bf 9) (bf 11) (bf 10) (bf 12) #[.int .i64 other, .int .i64 b, .int .i64 q, .int .i64 p, .int .i64 0, .bool true, .bool false] #[.int .i64 2, .int .i64 q, .int .i64 r] ∧ (bf 0 = true → v26 = .int .i64 other) ∧ (bf 1 = true → v27 = .int .i64 b) ∧ (bf 2 = true → v28 = .agg #[.int .i64 other, .int .i64 b, .int .i64 q, .int .i64 0, .int .i64 0, .bool true, .bool false]) ∧ (bf 3 = true → v29 = .agg #[.int .i64 1, .int .i64 p, .int .i64 0]) ∧ (bf 4 = true → v30 = .tuple #[.agg #[.int .i64 other, .int .i64 b, .int .i64 q, .int .i64 p, .int .i64 0, .bool true, .bool false], .agg #[.int .i64 2, .int .i64 q, .int .i64 r], .int .i64 0]) ∧ (bf 5 = true → v25 = .tuple #[.agg #[.int .i64 other, .int .i64 b, .int .i64 q, .int .i64 p, .int .i64 0, .bool true, .bool false], .agg #[.int .i64 2, .int .i64 q, .int .i64 r], .int .i64 0]) ∧ (bf 6 = true → v31 = .agg #[.int .i64 other, .int .i64 b, .int .i64 q, .int .i64 p, .int .i64 0, .bool true, .bool false]) ∧ (bf 7 = true → v32 = .agg #[.int .i64 2, .int .i64 q, .int .i64 r]) ∧ (bf 8 = true → v33 = .int .i64 0) ∧ (bf 13 = true → v14 = .int .i64 0)) (by kernel_rfl) (by decide +kernel) ?_ ?_ ?_
    · exact ⟨_, _, _, _, _, _, _, _, _, _, _, _, _, _, rfl, Mem.start _ _ _ _ _, (by simp), (by simp), (by simp), (by simp), (by simp), (by simp), (by simp), (by simp), (by simp), (by simp)⟩
    · refine ⟨?_, ?_, ?_, ?_, ?_, ?_, ?_, ?_, ?_, ?_, ?_, ?_, ?_, ?_, trivial⟩
      · intro bf ac wv hfb haf hJ K' hK
        obtain ⟨n1, n2, v26, v27, v28, v29, v30, v25, v31, v32, v33, v12, v13, v14, rfl, hM, g26, g27, g28, g29, g30, g25, g31, g32, g33, g14⟩ := hJ
        replace hK := Lib.hid hK
        replace hM := Lib.hid hM
        replace g26 := Lib.hid g26
        replace g27 := Lib.hid g27
        replace g28 := Lib.hid g28
        replace g29 := Lib.hid g29
        replace g30 := Lib.hid g30
        replace g25 := Lib.hid g25
        replace g31 := Lib.hid g31
        replace g32 := Lib.hid g32
        replace g33 := Lib.hid g33
        replace g14 := Lib.hid g14
        go_simp
        exact hK.out _ _ ⟨n1, n2, .int .i64 other, v27, v28, v29, v30, v25, v31, v32, v33, v12, v13, v14, rfl, hM.out, fun _ => rfl, g27.out, g28.out, g29.out, g30.out, g25.out, g31.out, g32.out, g33.out, g14.out⟩
      · intro bf ac wv hfb haf hJ K' hK
        obtain ⟨n1, n2, v26, v27, v28, v29, v30, v25, v31, v32, v33, v12, v13, v14, rfl, hM, g26, g27, g28, g29, g30, g25, g31, g32, g33, g14⟩ := hJ
        replace hK := Lib.hid hK
        replace hM := Lib.hid hM
        replace g26 := Lib.hid g26
        replace g27 := Lib.hid g27
        replace g28 := Lib.hid g28
        replace g29 := Lib.hid g29
        replace g30 := Lib.hid g30
        replace g25 := Lib.hid g25
        replace g31 := Lib.hid g31
        replace g32 := Lib.hid g32
        replace g33 := Lib.hid g33
        replace g14 := Lib.hid g14
        go_simp
        exact hK.out _ _ ⟨n1, n2, v26, .int .i64 b, v28, v29, v30, v25, v31, v32, v33, v12, v13, v14, rfl, hM.out, g26.out, fun _ => rfl, g28.out, g29.out, g30.out, g25.out, g31.out, g32.out, g33.out, g14.out⟩
      · intro bf ac wv hfb haf hJ K' hK
        obtain ⟨n1, n2, v26, v27, v28, v29, v30, v25, v31, v32, v33, v12, v13, v14, rfl, hM, g26, g27, g28, g29, g30, g25, g31, g32, g33, g14⟩ := hJ
        replace hK := Lib.hid hK
        replace hM := Lib.hid hM
        replace g26 := Lib.hid g26
        replace g27 := Lib.hid g27
        replace g28 := Lib.hid g28
        replace g29 := Lib.hid g29
        replace g30 := Lib.hid g30
        replace g25 := Lib.hid g25
        replace g31 := Lib.hid g31
        replace g32 := Lib.hid g32
        replace g33 := Lib.hid g33
        replace g14 := Lib.hid g14
        simp [Region.binds] at haf
        have hb0 : bf 0 = true := by simp [haf]
        have hb1 : bf 1 = true := by simp [haf]
        obtain rfl := g26.out hb0
        obtain rfl := g27.out hb1
        go_simp
        go_at_call 14
        refine (hub_is other b q _ hq.out).mono ?_
        rintro e w4 ⟨rfl, b4⟩
        exact hK.out _ _ ⟨n1, n2, .int .i64 other, .int .i64 b, .agg #[.int .i64 other, .int .i64 b, .int .i64 q, .int .i64 0, .int .i64 0, .bool true, .bool false], v29, v30, v25, v31, v32, v33, v12, v13, v14, rfl, hM.out.step b4, g26.out, g27.out, fun _ => rfl, g29.out, g30.out, g25.out, g31.out, g32.out, g33.out, g14.out⟩
      · intro bf ac wv hfb haf hJ K' hK
        obtain ⟨n1, n2, v26, v27, v28, v29, v30, v25, v31, v32, v33, v12, v13, v14, rfl, hM, g26, g27, g28, g29, g30, g25, g31, g32, g33, g14⟩ := hJ
        replace hK := Lib.hid hK
        replace hM := Lib.hid hM
        replace g26 := Lib.hid g26
        replace g27 := Lib.hid g27
        replace g28 := Lib.hid g28
        replace g29 := Lib.hid g29
        replace g30 := Lib.hid g30
        replace g25 := Lib.hid g25
        replace g31 := Lib.hid g31
        replace g32 := Lib.hid g32
        replace g33 := Lib.hid g33
        replace g14 := Lib.hid g14
        have hA := KA_6.out.step hM.out.below
        have xA0 := hA.c 0 rfl
        have xA1 := hA.c 1 rfl
        have xA2 := hA.c 2 rfl
        have zA := hA.2.2
        clear hA
        go_simp
        exact hK.out _ _ ⟨n1, n2, v26, v27, v28, .agg #[.int .i64 1, .int .i64 p, .int .i64 0], v30, v25, v31, v32, v33, v12, v13, v14, rfl, hM.out, g26.out, g27.out, g28.out, fun _ => rfl, g30.out, g25.out, g31.out, g32.out, g33.out, g14.out⟩
      · intro bf ac wv hfb haf hJ K' hK
        obtain ⟨n1, n2, v26, v27, v28, v29, v30, v25, v31, v32, v33, v12, v13, v14, rfl, hM, g26, g27, g28, g29, g30, g25, g31, g32, g33, g14⟩ := hJ
        replace hK := Lib.hid hK
        replace hM := Lib.hid hM
        replace g26 := Lib.hid g26
        replace g27 := Lib.hid g27
        replace g28 := Lib.hid g28
        replace g29 := Lib.hid g29
        replace g30 := Lib.hid g30
        replace g25 := Lib.hid g25
        replace g31 := Lib.hid g31
        replace g32 := Lib.hid g32
        replace g33 := Lib.hid g33
        replace g14 := Lib.hid g14
        simp [Region.binds] at haf
        have hb2 : bf 2 = true := by simp [haf]
        have hb3 : bf 3 = true := by simp [haf]
        obtain rfl := g28.out hb2
        obtain rfl := g29.out hb3
        go_simp
        go_at_call 12
        refine (recv_is other b q 0 0 true false 1 p 0 0 _ _ _ hw1.out).mono ?_
        rintro e w5 ⟨rfl, b5⟩
        exact hK.out _ _ ⟨n1, n2, v26, v27, .agg #[.int .i64 other, .int .i64 b, .int .i64 q, .int .i64 0, .int .i64 0, .bool true, .bool false], .agg #[.int .i64 1, .int .i64 p, .int .i64 0], .tuple #[.agg #[.int .i64 other, .int .i64 b, .int .i64 q, .int .i64 p, .int .i64 0, .bool true, .bool false], .agg #[.int .i64 2, .int .i64 q, .int .i64 r], .int .i64 0], v25, v31, v32, v33, v12, v13, v14, rfl, hM.out.step b5, g26.out, g27.out, g28.out, g29.out, fun _ => rfl, g25.out, g31.out, g32.out, g33.out, g14.out⟩
      · intro bf ac wv hfb haf hJ K' hK
        obtain ⟨n1, n2, v26, v27, v28, v29, v30, v25, v31, v32, v33, v12, v13, v14, rfl, hM, g26, g27, g28, g29, g30, g25, g31, g32, g33, g14⟩ := hJ
        replace hK := Lib.hid hK
        replace hM := Lib.hid hM
        replace g26 := Lib.hid g26
        replace g27 := Lib.hid g27
        replace g28 := Lib.hid g28
        replace g29 := Lib.hid g29
        replace g30 := Lib.hid g30
        replace g25 := Lib.hid g25
        replace g31 := Lib.hid g31
        replace g32 := Lib.hid g32
        replace g33 := Lib.hid g33
        replace g14 := Lib.hid g14
        simp [Region.binds] at haf
        have hb4 : bf 4 = true := by simp [haf]
        obtain rfl := g30.out hb4
        go_simp
        exact hK.out _ _ ⟨n1, n2, v26, v27, v28, v29, .tuple #[.agg #[.int .i64 other, .int .i64 b, .int .i64 q, .int .i64 p, .int .i64 0, .bool true, .bool false], .agg #[.int .i64 2, .int .i64 q, .int .i64 r], .int .i64 0], .tuple #[.agg #[.int .i64 other, .int .i64 b, .int .i64 q, .int .i64 p, .int .i64 0, .bool true, .bool false], .agg #[.int .i64 2, .int .i64 q, .int .i64 r], .int .i64 0], v31, v32, v33, v12, v13, v14, rfl, hM.out, g26.out, g27.out, g28.out, g29.out, g30.out, fun _ => rfl, g31.out, g32.out, g33.out, g14.out⟩
      · intro bf ac wv hfb haf hJ K' hK
        obtain ⟨n1, n2, v26, v27, v28, v29, v30, v25, v31, v32, v33, v12, v13, v14, rfl, hM, g26, g27, g28, g29, g30, g25, g31, g32, g33, g14⟩ := hJ
        replace hK := Lib.hid hK
        replace hM := Lib.hid hM
        replace g26 := Lib.hid g26
        replace g27 := Lib.hid g27
        replace g28 := Lib.hid g28
        replace g29 := Lib.hid g29
        replace g30 := Lib.hid g30
        replace g25 := Lib.hid g25
        replace g31 := Lib.hid g31
        replace g32 := Lib.hid g32
        replace g33 := Lib.hid g33
        replace g14 := Lib.hid g14
        simp [Region.binds] at haf
        have hb5 : bf 5 = true := by simp [haf]
        obtain rfl := g25.out hb5
        go_simp
        exact hK.out _ _ ⟨n1, n2, v26, v27, v28, v29, v30, .tuple #[.agg #[.int .i64 other, .int .i64 b, .int .i64 q, .int .i64 p, .int .i64 0, .bool true, .bool false], .agg #[.int .i64 2, .int .i64 q, .int .i64 r], .int .i64 0], .agg #[.int .i64 other, .int .i64 b, .int .i64 q, .int .i64 p, .int .i64 0, .bool true, .bool false], v32, v33, v12, v13, v14, rfl, hM.out, g26.out, g27.out, g28.out, g29.out, g30.out, g25.out, fun _ => rfl, g32.out, g33.out, g14.out⟩
      · intro bf ac wv hfb haf hJ K' hK
        obtain ⟨n1, n2, v26, v27, v28, v29, v30, v25, v31, v32, v33, v12, v13, v14, rfl, hM, g26, g27, g28, g29, g30, g25, g31, g32, g33, g14⟩ := hJ
        replace hK := Lib.hid hK
        replace hM := Lib.hid hM
        replace g26 := Lib.hid g26
        replace g27 := Lib.hid g27
        replace g28 := Lib.hid g28
        replace g29 := Lib.hid g29
        replace g30 := Lib.hid g30
        replace g25 := Lib.hid g25
        replace g31 := Lib.hid g31
        replace g32 := Lib.hid g32
        replace g33 := Lib.hid g33
        replace g14 := Lib.hid g14
        simp [Region.binds] at haf
        have hb5 : bf 5 = true := by simp [haf]
        obtain rfl := g25.out hb5
        go_simp
        exact hK.out _ _ ⟨n1, n2, v26, v27, v28, v29, v30, .tuple #[.agg #[.int .i64 other, .int .i64 b, .int .i64 q, .int .i64 p, .int .i64 0, .bool true, .bool false], .agg #[.int .i64 2, .int .i64 q, .int .i64 r], .int .i64 0], v31, .agg #[.int .i64 2, .int .i64 q, .int .i64 r], v33, v12, v13, v14, rfl, hM.out, g26.out, g27.out, g28.out, g29.out, g30.out, g25.out, g31.out, fun _ => rfl, g33.out, g14.out⟩
      · intro bf ac wv hfb haf hJ K' hK
        obtain ⟨n1, n2, v26, v27, v28, v29, v30, v25, v31, v32, v33, v12, v13, v14, rfl, hM, g26, g27, g28, g29, g30, g25, g31, g32, g33, g14⟩ := hJ
        replace hK := Lib.hid hK
        replace hM := Lib.hid hM
        replace g26 := Lib.hid g26
        replace g27 := Lib.hid g27
        replace g28 := Lib.hid g28
        replace g29 := Lib.hid g29
        replace g30 := Lib.hid g30
        replace g25 := Lib.hid g25
        replace g31 := Lib.hid g31
        replace g32 := Lib.hid g32
        replace g33 := Lib.hid g33
        replace g14 := Lib.hid g14
        simp [Region.binds] at haf
        have hb5 : bf 5 = true := by simp [haf]
        obtain rfl := g25.out hb5
        go_simp
        exact hK.out _ _ ⟨n1, n2, v26, v27, v28, v29, v30, .tuple #[.agg #[.int .i64 other, .int .i64 b, .int .i64 q, .int .i64 p, .int .i64 0, .bool true, .bool false], .agg #[.int .i64 2, .int .i64 q, .int .i64 r], .int .i64 0], v31, v32, .int .i64 0, v12, v13, v14, rfl, hM.out, g26.out, g27.out, g28.out, g29.out, g30.out, g25.out, g31.out, g32.out, fun _ => rfl, g14.out⟩
      · intro bf ac wv hfb haf hJ K' hK
        obtain ⟨n1, n2, v26, v27, v28, v29, v30, v25, v31, v32, v33, v12, v13, v14, rfl, hM, g26, g27, g28, g29, g30, g25, g31, g32, g33, g14⟩ := hJ
        replace hK := Lib.hid hK
        replace hM := Lib.hid hM
        replace g26 := Lib.hid g26
        replace g27 := Lib.hid g27
        replace g28 := Lib.hid g28
        replace g29 := Lib.hid g29
        replace g30 := Lib.hid g30
        replace g25 := Lib.hid g25
        replace g31 := Lib.hid g31
        replace g32 := Lib.hid g32
        replace g33 := Lib.hid g33
        replace g14 := Lib.hid g14
        obtain ⟨m2, hM2⟩ := hM.out.alloc1 hfb
        have hM2 := Lib.hid hM2
        clear hM
        go_simp
        exact hK.out _ _ ⟨_, m2, v26, v27, v28, v29, v30, v25, v31, v32, v33, _, v13, v14, rfl, hM2.out, g26.out, g27.out, g28.out, g29.out, g30.out, g25.out, g31.out, g32.out, g33.out, g14.out⟩
      · intro bf ac wv hfb haf hJ K' hK
        obtain ⟨n1, n2, v26, v27, v28, v29, v30, v25, v31, v32, v33, v12, v13, v14, rfl, hM, g26, g27, g28, g29, g30, g25, g31, g32, g33, g14⟩ := hJ
        replace hK := Lib.hid hK
        replace hM := Lib.hid hM
        replace g26 := Lib.hid g26
        replace g27 := Lib.hid g27
        replace g28 := Lib.hid g28
        replace g29 := Lib.hid g29
        replace g30 := Lib.hid g30
        replace g25 := Lib.hid g25
        replace g31 := Lib.hid g31
        replace g32 := Lib.hid g32
        replace g33 := Lib.hid g33
        replace g14 := Lib.hid g14
        obtain ⟨m1, hM2⟩ := hM.out.alloc2 hfb
        have hM2 := Lib.hid hM2
        clear hM
        go_simp
        exact hK.out _ _ ⟨m1, _, v26, v27, v28, v29, v30, v25, v31, v32, v33, v12, _, v14, rfl, hM2.out, g26.out, g27.out, g28.out, g29.out, g30.out, g25.out, g31.out, g32.out, g33.out, g14.out⟩
      · intro bf ac wv hfb haf hJ K' hK
        obtain ⟨n1, n2, v26, v27, v28, v29, v30, v25, v31, v32, v33, v12, v13, v14, rfl, hM, g26, g27, g28, g29, g30, g25, g31, g32, g33, g14⟩ := hJ
        replace hK := Lib.hid hK
        replace hM := Lib.hid hM
        replace g26 := Lib.hid g26
        replace g27 := Lib.hid g27
        replace g28 := Lib.hid g28
        replace g29 := Lib.hid g29
        replace g30 := Lib.hid g30
        replace g25 := Lib.hid g25
        replace g31 := Lib.hid g31
        replace g32 := Lib.hid g32
        replace g33 := Lib.hid g33
        replace g14 := Lib.hid g14
        simp [Region.binds] at haf
        have hb6 : bf 6 = true := by simp [haf]
        have hb9 : bf 9 = true := by simp [haf]
        obtain rfl := g31.out hb6
        obtain ⟨rfl, hZ⟩ := hM.out.zero1 hb9 hfb
        have hZ := Lib.hid hZ
        unfold ptr at hM hK ⊢
        have xZ0 := hZ.out.c 0 rfl
        have yZ0 := hZ.out.f 0 (by simp)
        have xZ1 := hZ.out.c 1 rfl
        have yZ1 := hZ.out.f 1 (by simp)
        have xZ2 := hZ.out.c 2 rfl
        have yZ2 := hZ.out.f 2 (by simp)
        have xZ3 := hZ.out.c 3 rfl
        have yZ3 := hZ.out.f 3 (by simp)
        have xZ4 := hZ.out.c 4 rfl
        have yZ4 := hZ.out.f 4 (by simp)
        have xZ5 := hZ.out.c 5 rfl
        have yZ5 := hZ.out.f 5 (by simp)
        have xZ6 := hZ.out.c 6 rfl
        have yZ6 := hZ.out.f 6 (by simp)
        have zZ := hZ.out.2.2
        go_simp
        have hM3 := hM.out; rw [hb9] at hM3
        have hM4 := hM3.store1 (Turned.all7 hZ.out)
        exact hK.out _ _ ⟨n1, n2, v26, v27, v28, v29, v30, v25, .agg #[.int .i64 other, .int .i64 b, .int .i64 q, .int .i64 p, .int .i64 0, .bool true, .bool false], v32, v33, .pointer (some ⟨n1, 0, none⟩), v13, v14, rfl, (by rw [show up bf 11 9 = true from hb9]; exact hM4), g26.out, g27.out, g28.out, g29.out, g30.out, g25.out, g31.out, g32.out, g33.out, g14.out⟩
      · intro bf ac wv hfb haf hJ K' hK
        obtain ⟨n1, n2, v26, v27, v28, v29, v30, v25, v31, v32, v33, v12, v13, v14, rfl, hM, g26, g27, g28, g29, g30, g25, g31, g32, g33, g14⟩ := hJ
        replace hK := Lib.hid hK
        replace hM := Lib.hid hM
        replace g26 := Lib.hid g26
        replace g27 := Lib.hid g27
        replace g28 := Lib.hid g28
        replace g29 := Lib.hid g29
        replace g30 := Lib.hid g30
        replace g25 := Lib.hid g25
        replace g31 := Lib.hid g31
        replace g32 := Lib.hid g32
        replace g33 := Lib.hid g33
        replace g14 := Lib.hid g14
        simp [Region.binds] at haf
        have hb7 : bf 7 = true := by simp [haf]
        have hb10 : bf 10 = true := by simp [haf]
        obtain rfl := g32.out hb7
        obtain ⟨rfl, hZ⟩ := hM.out.zero2 hb10 hfb
        have hZ := Lib.hid hZ
        unfold ptr at hM hK ⊢
        have xZ0 := hZ.out.c 0 rfl
        have yZ0 := hZ.out.f 0 (by simp)
        have xZ1 := hZ.out.c 1 rfl
        have yZ1 := hZ.out.f 1 (by simp)
        have xZ2 := hZ.out.c 2 rfl
        have yZ2 := hZ.out.f 2 (by simp)
        have zZ := hZ.out.2.2
        go_simp
        have hM3 := hM.out; rw [hb10] at hM3
        have hM4 := hM3.store2 (Turned.all3 hZ.out)
        exact hK.out _ _ ⟨n1, n2, v26, v27, v28, v29, v30, v25, v31, .agg #[.int .i64 2, .int .i64 q, .int .i64 r], v33, v12, .pointer (some ⟨n2, 0, none⟩), v14, rfl, (by rw [show up bf 12 10 = true from hb10]; exact hM4), g26.out, g27.out, g28.out, g29.out, g30.out, g25.out, g31.out, g32.out, g33.out, g14.out⟩
      · intro bf ac wv hfb haf hJ K' hK
        obtain ⟨n1, n2, v26, v27, v28, v29, v30, v25, v31, v32, v33, v12, v13, v14, rfl, hM, g26, g27, g28, g29, g30, g25, g31, g32, g33, g14⟩ := hJ
        replace hK := Lib.hid hK
        replace hM := Lib.hid hM
        replace g26 := Lib.hid g26
        replace g27 := Lib.hid g27
        replace g28 := Lib.hid g28
        replace g29 := Lib.hid g29
        replace g30 := Lib.hid g30
        replace g25 := Lib.hid g25
        replace g31 := Lib.hid g31
        replace g32 := Lib.hid g32
        replace g33 := Lib.hid g33
        replace g14 := Lib.hid g14
        simp [Region.binds] at haf
        have hb8 : bf 8 = true := by simp [haf]
        obtain rfl := g33.out hb8
        go_simp
        exact hK.out _ _ ⟨n1, n2, v26, v27, v28, v29, v30, v25, v31, v32, .int .i64 0, v12, v13, .int .i64 0, rfl, hM.out, g26.out, g27.out, g28.out, g29.out, g30.out, g25.out, g31.out, g32.out, g33.out, fun _ => rfl⟩
    · intro bf ac wv hall hJ
      obtain ⟨n1, n2, v26, v27, v28, v29, v30, v25, v31, v32, v33, v12, v13, v14, rfl, hM, g26, g27, g28, g29, g30, g25, g31, g32, g33, g14⟩ := hJ
      obtain rfl := g14 (hall 13 (by decide))
      rw [hall 9 (by decide), hall 10 (by decide), hall 11 (by decide), hall 12 (by decide)] at hM
      obtain ⟨rfl, h1⟩ := hM.c1 rfl
      obtain ⟨rfl, h2⟩ := hM.c2 rfl
      have hB := hM.below
      clear g26 g27 g28 g29 g30 g25 g31 g32 g33 g14 hM hall
      unfold ptr
      go_wp2
      go_meet
      exact ⟨n1, n2, rfl, rfl, rfl, Lib.hid h1, Lib.hid h2, hB⟩
  case rest =>
    obtain ⟨n1, n2, rfl, rfl, rfl, hJ, hH, hB⟩ := hcut
    have KD_8 := Lib.hid (KD_5.out.step hB)
    clear KD_5
    have KA_9 := Lib.hid (KA_6.out.step hB)
    clear KA_6
    have HB10 := Lib.hid (keep2 hB HB7.out)
    clear HB7 hB
    have xC0 : wc.cell? ⟨n2, 0, none⟩ = some (.int .i64 2) := hH.out.c 0 rfl
    have xC1 : wc.cell? ⟨n2, 1, none⟩ = some (.int .i64 q) := hH.out.c 1 rfl
    have xC2 : wc.cell? ⟨n2, 2, none⟩ = some (.int .i64 r) := hH.out.c 2 rfl
    have zC : n2 < wc.heap.size := hH.out.2.2
    have z2C : n2 < wc.heap.size + 1 := by omega
    go_wp2_with fail
    refine (racc_at q true _ hb.out).mono ?_
    rintro e _ ⟨rfl, rfl⟩
    go_wp2_with fail
    refine (rrem_any code 2147483647 _ (by omega) (by omega)).mono ?_
    rintro e _ ⟨rfl, rfl⟩
    rw [hu.out]
    go_wp2_with fail
    refine (rrem_any other 2147483647 _ (by omega) (by omega)).mono ?_
    rintro e _ ⟨rfl, rfl⟩
    rw [hv.out]
    clear xC0 xC1 xC2 zC z2C
    have xD0 : wc.cell? ⟨u2.heap.size, 0, none⟩ = some (.int .i64 code) := KD_8.out.c 0 rfl
    have xD1 : wc.cell? ⟨u2.heap.size, 1, none⟩ = some (.int .i64 a) := KD_8.out.c 1 rfl
    have xD2 : wc.cell? ⟨u2.heap.size, 2, none⟩ = some (.int .i64 p) := KD_8.out.c 2 rfl
    have xD3 : wc.cell? ⟨u2.heap.size, 3, none⟩ = some (.int .i64 0) := KD_8.out.c 3 rfl
    have xD4 : wc.cell? ⟨u2.heap.size, 4, none⟩ = some (.int .i64 0) := KD_8.out.c 4 rfl
    have xD5 : wc.cell? ⟨u2.heap.size, 5, none⟩ = some (.bool false) := KD_8.out.c 5 rfl
    have xD6 : wc.cell? ⟨u2.heap.size, 6, none⟩ = some (.bool false) := KD_8.out.c 6 rfl
    have zD : u2.heap.size < wc.heap.size := KD_8.out.2.2
    have z2D : u2.heap.size < wc.heap.size + 1 := by omega
    have xC0 : wc.cell? ⟨n2, 0, none⟩ = some (.int .i64 2) := hH.out.c 0 rfl
    have xC1 : wc.cell? ⟨n2, 1, none⟩ = some (.int .i64 q) := hH.out.c 1 rfl
    have xC2 : wc.cell? ⟨n2, 2, none⟩ = some (.int .i64 r) := hH.out.c 2 rfl
    have zC : n2 < wc.heap.size := hH.out.2.2
    have z2C : n2 < wc.heap.size + 1 := by omega
    go_wp2_with fail
    refine (recv_is code a p 0 0 false false 2 q r 17 _ _ _ hw2.out).mono ?_
    rintro e u3 ⟨rfl, b3⟩
    clear xD0 xD1 xD2 xD3 xD4 xD5 xD6 zD z2D xC0 xC1 xC2 zC z2C
    have KD_11 := Lib.hid (KD_8.out.step b3)
    clear KD_8
    have KA_12 := Lib.hid (KA_9.out.step b3)
    clear KA_9
    have KB_13 := Lib.hid (hJ.out.step b3)
    clear hJ
    have KC_14 := Lib.hid (hH.out.step b3)
    clear hH
    have HB15 := Lib.hid (keep2 b3 HB10.out)
    clear HB10 b3
    have KD_16 := Lib.hid (KD_11.out.alloc (.cells #[.int .i64 0, .int .i64 0, .int .i64 0, .int .i64 0, .int .i64 0, .bool false, .bool false] 23))
    clear KD_11
    have KA_17 := Lib.hid (KA_12.out.alloc (.cells #[.int .i64 0, .int .i64 0, .int .i64 0, .int .i64 0, .int .i64 0, .bool false, .bool false] 23))
    clear KA_12
    have KB_18 := Lib.hid (KB_13.out.alloc (.cells #[.int .i64 0, .int .i64 0, .int .i64 0, .int .i64 0, .int .i64 0, .bool false, .bool false] 23))
    clear KB_13
    have KC_19 := Lib.hid (KC_14.out.alloc (.cells #[.int .i64 0, .int .i64 0, .int .i64 0, .int .i64 0, .int .i64 0, .bool false, .bool false] 23))
    clear KC_14
    have KE_20 := Lib.hid (Cs.new u3 (u3.heap.size) #[.int .i64 0, .int .i64 0, .int .i64 0, .int .i64 0, .int .i64 0, .bool false, .bool false] 23 (by simp))
    have HB21 : Hid (Below w.heap.size w (u3.alloc (.cells #[.int .i64 0, .int .i64 0, .int .i64 0, .int .i64 0, .int .i64 0, .bool false, .bool false] 23))) := HB15.out.alloc HB15.out.size _
    clear HB15
    have KD_22 := Lib.hid (KD_16.out.alloc (.cells #[.int .i64 0, .int .i64 0, .int .i64 0] 25))
    clear KD_16
    have KA_23 := Lib.hid (KA_17.out.alloc (.cells #[.int .i64 0, .int .i64 0, .int .i64 0] 25))
    clear KA_17
    have KB_24 := Lib.hid (KB_18.out.alloc (.cells #[.int .i64 0, .int .i64 0, .int .i64 0] 25))
    clear KB_18
    have KC_25 := Lib.hid (KC_19.out.alloc (.cells #[.int .i64 0, .int .i64 0, .int .i64 0] 25))
    clear KC_19
    have KE_26 := Lib.hid (KE_20.out.alloc (.cells #[.int .i64 0, .int .i64 0, .int .i64 0] 25))
    clear KE_20
    have KF_27 := Lib.hid (Cs.new (u3.alloc (.cells #[.int .i64 0, .int .i64 0, .int .i64 0, .int .i64 0, .int .i64 0, .bool false, .bool false] 23)) (u3.heap.size + 1) #[.int .i64 0, .int .i64 0, .int .i64 0] 25 (by simp))
    have HB28 : Hid (Below w.heap.size w ((u3.alloc (.cells #[.int .i64 0, .int .i64 0, .int .i64 0, .int .i64 0, .int .i64 0, .bool false, .bool false] 23)).alloc (.cells #[.int .i64 0, .int .i64 0, .int .i64 0] 25))) := HB21.out.alloc HB21.out.size _
    clear HB21
    have xE0 : ((u3.alloc (.cells #[.int .i64 0, .int .i64 0, .int .i64 0, .int .i64 0, .int .i64 0, .bool false, .bool false] 23)).alloc (.cells #[.int .i64 0, .int .i64 0, .int .i64 0] 25)).cell? ⟨u3.heap.size, 0, none⟩ = some (.int .i64 0) := KE_26.out.c 0 rfl
    have xE1 : ((u3.alloc (.cells #[.int .i64 0, .int .i64 0, .int .i64 0, .int .i64 0, .int .i64 0, .bool false, .bool false] 23)).alloc (.cells #[.int .i64 0, .int .i64 0, .int .i64 0] 25)).cell? ⟨u3.heap.size, 1, none⟩ = some (.int .i64 0) := KE_26.out.c 1 rfl
    have xE2 : ((u3.alloc (.cells #[.int .i64 0, .int .i64 0, .int .i64 0, .int .i64 0, .int .i64 0, .bool false, .bool false] 23)).alloc (.cells #[.int .i64 0, .int .i64 0, .int .i64 0] 25)).cell? ⟨u3.heap.size, 2, none⟩ = some (.int .i64 0) := KE_26.out.c 2 rfl
    have xE3 : ((u3.alloc (.cells #[.int .i64 0, .int .i64 0, .int .i64 0, .int .i64 0, .int .i64 0, .bool false, .bool false] 23)).alloc (.cells #[.int .i64 0, .int .i64 0, .int .i64 0] 25)).cell? ⟨u3.heap.size, 3, none⟩ = some (.int .i64 0) := KE_26.out.c 3 rfl
    have xE4 : ((u3.alloc (.cells #[.int .i64 0, .int .i64 0, .int .i64 0, .int .i64 0, .int .i64 0, .bool false, .bool false] 23)).alloc (.cells #[.int .i64 0, .int .i64 0, .int .i64 0] 25)).cell? ⟨u3.heap.size, 4, none⟩ = some (.int .i64 0) := KE_26.out.c 4 rfl
    have xE5 : ((u3.alloc (.cells #[.int .i64 0, .int .i64 0, .int .i64 0, .int .i64 0, .int .i64 0, .bool false, .bool false] 23)).alloc (.cells #[.int .i64 0, .int .i64 0, .int .i64 0] 25)).cell? ⟨u3.heap.size, 5, none⟩ = some (.bool false) := KE_26.out.c 5 rfl
    have xE6 : ((u3.alloc (.cells #[.int .i64 0, .int .i64 0, .int .i64 0, .int .i64 0, .int .i64 0, .bool false, .bool false] 23)).alloc (.cells #[.int .i64 0, .int .i64 0, .int .i64 0] 25)).cell? ⟨u3.heap.size, 6, none⟩ = some (.bool false) := KE_26.out.c 6 rfl
    have zE : u3.heap.size < ((u3.alloc (.cells #[.int .i64 0, .int .i64 0, .int .i64 0, .int .i64 0, .int .i64 0, .bool false, .bool false] 23)).alloc (.cells #[.int .i64 0, .int .i64 0, .int .i64 0] 25)).heap.size := KE_26.out.2.2
    have z2E : u3.heap.size < ((u3.alloc (.cells #[.int .i64 0, .int .i64 0, .int .i64 0, .int .i64 0, .int .i64 0, .bool false, .bool false] 23)).alloc (.cells #[.int .i64 0, .int .i64 0, .int .i64 0] 25)).heap.size + 1 := by omega
    have xF0 : ((u3.alloc (.cells #[.int .i64 0, .int .i64 0, .int .i64 0, .int .i64 0, .int .i64 0, .bool false, .bool false] 23)).alloc (.cells #[.int .i64 0, .int .i64 0, .int .i64 0] 25)).cell? ⟨u3.heap.size + 1, 0, none⟩ = some (.int .i64 0) := KF_27.out.c 0 rfl
    have xF1 : ((u3.alloc (.cells #[.int .i64 0, .int .i64 0, .int .i64 0, .int .i64 0, .int .i64 0, .bool false, .bool false] 23)).alloc (.cells #[.int .i64 0, .int .i64 0, .int .i64 0] 25)).cell? ⟨u3.heap.size + 1, 1, none⟩ = some (.int .i64 0) := KF_27.out.c 1 rfl
    have xF2 : ((u3.alloc (.cells #[.int .i64 0, .int .i64 0, .int .i64 0, .int .i64 0, .int .i64 0, .bool false, .bool false] 23)).alloc (.cells #[.int .i64 0, .int .i64 0, .int .i64 0] 25)).cell? ⟨u3.heap.size + 1, 2, none⟩ = some (.int .i64 0) := KF_27.out.c 2 rfl
    have zF : u3.heap.size + 1 < ((u3.alloc (.cells #[.int .i64 0, .int .i64 0, .int .i64 0, .int .i64 0, .int .i64 0, .bool false, .bool false] 23)).alloc (.cells #[.int .i64 0, .int .i64 0, .int .i64 0] 25)).heap.size := KF_27.out.2.2
    have z2F : u3.heap.size + 1 < ((u3.alloc (.cells #[.int .i64 0, .int .i64 0, .int .i64 0, .int .i64 0, .int .i64 0, .bool false, .bool false] 23)).alloc (.cells #[.int .i64 0, .int .i64 0, .int .i64 0] 25)).heap.size + 1 := by omega
    go_wp2
    go_ret
    exact ⟨rfl, HB28.out⟩
theorem codes_any (code other a b : Int) (w : World) : Calls Try.prog 5 #[.int .i64 code, .int .i64 other, .int .i64 a, .int .i64 b] w fun e w' => e = .returned (.bool true) ∧ Below w.heap.size w w' := by
  obtain ⟨p, hp⟩ : ∃ p, pw 7 a = p := ⟨_, rfl⟩
  obtain ⟨q, hq⟩ : ∃ q, pw 7 b = q := ⟨_, rfl⟩
  cases ha : accB p with
  | false => exact codes_no code other a b p q w hp hq (meetsNo hq ha)
  | true =>
    cases hb : accB q with
    | false => exact codes_no2 code other a b p q _ w hp hq hb (meets hq ha)
    | true =>
      by_cases huv : code % 2147483647 = other % 2147483647
      · exact codes_same code other a b p q _ _ _ w hp hq hb rfl rfl (meets hq ha) huv
      · exact codes_yes code other a b p q _ _ _ w hp hq hb rfl rfl (meets hq ha) huv (.agreeBad (vld_new hp) rfl rfl rfl hb (by rw [prf_meet other hp hq]; exact prf_code a p q false 1 fun e => huv e.symm))
end Go.Proofs.Ytoggmladiakblaa
