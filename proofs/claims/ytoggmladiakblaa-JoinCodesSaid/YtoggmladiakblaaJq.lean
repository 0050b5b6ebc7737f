/- The walks of JoinAgrees, JoinDirection and JoinCodes. -/
import Derived.Test.YtoggmladiakblaaJp
namespace Go.Proofs.Ytoggmladiakblaa
open Go.RowKit

theorem vld_new {b q : Int} (hq : pw 7 b = q) : vld b q 0 0 false = true := by subst hq; simp [vld]
theorem prf_meet {a b p q : Int} (c : Int) (hp : pw 7 a = p) (hq : pw 7 b = q) (mark : Int) : prf c b q p true mark = prf c a p q false mark := by
  have := pw_agree a b
  rw [hp, hq] at this
  unfold prf
  simp [this]
theorem prf_code {c c' : Int} (s m o : Int) (h : Bool) (mark : Int) (hc : c % 2147483647 ≠ c' % 2147483647) : (prf c s m o h mark == prf c' s m o h mark) = false := by
  have := (not_congr (Dg_replace [] [4, mark, if h then o else m, if h then m else o, pw o s] c c')).2 hc
  unfold prf
  simpa using this
theorem prf_mark (c s m o : Int) (h : Bool) : (prf c s m o h 1 == prf c s m o h 2) = false ∧ (prf c s m o h 2 == prf c s m o h 1) = false := by
  have h1 := (not_congr (Dg_replace [c, 4] [if h then o else m, if h then m else o, pw o s] 1 2)).2 (by decide)
  have h2 : ¬ prf c s m o h 1 = prf c s m o h 2 := by unfold prf; simpa using h1
  exact ⟨by simpa using h2, by simpa using fun e => h2 e.symm⟩
theorem meets {c b p q : Int} (hq : pw 7 b = q) (ha : accB p = true) : RW c b q 0 0 true false 1 p 0 0 (jc c b q p 0 true false) (hc3 2 q (prf c b q p true 1)) := .meet (vld_new hq) rfl rfl rfl ha
theorem meetsNo {c b p q : Int} (hq : pw 7 b = q) (ha : accB p = false) : RW c b q 0 0 true false 1 p 0 1 zj zh := .meetNo (vld_new hq) rfl rfl rfl ha
theorem pw_same {a b p q : Int} (hp : pw 7 a = p) (hq : pw 7 b = q) : pw p b = pw q a := by rw [← hp, ← hq]; exact pw_agree a b
theorem acc_nz {y : Int} (h : accB y = true) : (y != 0) = true := acc_ne h
set_option maxRecDepth 100000 in
set_option maxHeartbeats 4000000 in
theorem agrees_no (code a b p q : Int) (w : World) (hp : pw 7 a = p) (hq : pw 7 b = q) (ha : accB p = false) (hw1 : RW code b q 0 0 true false 1 p 0 1 zj zh) : Calls Try.prog 4 #[.int .i64 code, .int .i64 a, .int .i64 b] w fun e w' => e = .returned (.bool true) ∧ Below w.heap.size w w' := by
  replace hp := Lib.hid hp
  replace hq := Lib.hid hq
  replace ha := Lib.hid ha
  replace hw1 := Lib.hid hw1
  have HB0 := Lib.hid (Below.refl w.heap.size w)
  go_enter Try.func4, Try.ntmps4
  go_wp2_with fail
  refine (head_any _).mono ?_
  rintro e u1 ⟨rfl, b1⟩
  have HB1 := Lib.hid (keep2 b1 HB0.out)
  clear HB0 b1
  go_wp2_with fail
  refine (device_is code a p _ hp.out).mono ?_
  rintro e u2 ⟨rfl, b2⟩
  have HB2 := Lib.hid (keep2 b2 HB1.out)
  clear HB1 b2
  have KD_3 := Lib.hid (Cs.new u2 (u2.heap.size) #[.int .i64 code, .int .i64 a, .int .i64 p, .int .i64 0, .int .i64 0, .bool false, .bool false] 23 (by simp))
  have HB4 : Hid (Below w.heap.size w (u2.alloc (.cells #[.int .i64 code, .int .i64 a, .int .i64 p, .int .i64 0, .int .i64 0, .bool false, .bool false] 23))) := HB2.out.alloc HB2.out.size _
  clear HB2
  have KD_5 := Lib.hid (KD_3.out.alloc (.cells #[.int .i64 1, .int .i64 p, .int .i64 0] 25))
  clear KD_3
  have KA_6 := Lib.hid (Cs.new (u2.alloc (.cells #[.int .i64 code, .int .i64 a, .int .i64 p, .int .i64 0, .int .i64 0, .bool false, .bool false] 23)) (u2.heap.size + 1) #[.int .i64 1, .int .i64 p, .int .i64 0] 25 (by simp))
  have HB7 : Hid (Below w.heap.size w ((u2.alloc (.cells #[.int .i64 code, .int .i64 a, .int .i64 p, .int .i64 0, .int .i64 0, .bool false, .bool false] 23)).alloc (.cells #[.int .i64 1, .int .i64 p, .int .i64 0] 25))) := HB4.out.alloc HB4.out.size _
  clear HB4
  go_upto_region 3 with fail
  obtain ⟨wq, hwq⟩ : ∃ wq, ((u2.alloc (.cells #[.int .i64 code, .int .i64 a, .int .i64 p, .int .i64 0, .int .i64 0, .bool false, .bool false] 23)).alloc (.cells #[.int .i64 1, .int .i64 p, .int .i64 0] 25)) = wq := ⟨_, rfl⟩
  rw [hwq] at KD_5
  rw [hwq] at KA_6
  rw [hwq] at HB7 ⊢
  clear hwq
  go_cut [10, 11, 12] from 26 to 34 (fun pc qc rc wc => ∃ n1 n2 : Nat, pc = .pointer (some ⟨n1, 0, none⟩) ∧ qc = .pointer (some ⟨n2, 0, none⟩) ∧ rc = .int .i64 1 ∧ Hid (Cs wc n1 #[.int .i64 0, .int .i64 0, .int .i64 0, .int .i64 0, .int .i64 0, .bool false, .bool false]) ∧ Hid (Cs wc n2 #[.int .i64 0, .int .i64 0, .int .i64 0]) ∧ Below wq.heap.size wq wc)
  case first =>
    refine region_inv (fun bf ac wv => ∃ (n1 n2 : Nat) (v27 v28 v29 v30 v31 v26 v32 v33 v34 v10 v11 v12 : Value), ac = { tmps := #[.int .i64 code, .int .i64 a, .int .i64 b, undef, undef, undef, .bool false, .bool true, .pointer (some ⟨u2.heap.size, 0, none⟩), .pointer (some ⟨u2.heap.size + 1, 0, none⟩), v10, v11, v12, undef, undef, undef, undef, undef, undef, .bool true, .tuple #[.agg #[.int .i64 code, .int .i64 a, .int .i64 p, .int .i64 0, .int .i64 0, .bool false, .bool false], .agg #[.int .i64 1, .int .i64 p, .int .i64 0]], .int .i64 code, .int .i64 a, .tuple #[.agg #[.int .i64 code, .int .i64 a, .int .i64 p, .int .i64 0, .int .i64 0, .bool false, .bool false], .agg #[.int .i64 1, .int .i64 p, .int .i64 0]], .agg #[.int .i64 code, .int .i64 a, .int .i64 p, .int .i64 0, .int .i64 0, .bool false, .bool false], .agg #[.int .i64 1, .int .i64 p, .int .i64 0], v26, v27, v28, v29, v30, v31, v32, v33, v34, undef, undef, undef, undef, undef, undef, undef, undef, undef, undef, undef, undef, undef, undef, undef, undef, undef, undef, undef, undef, undef, undef, undef, undef, undef, undef, undef, undef, undef, undef, undef, undef, undef, undef, undef, undef, undef, undef, undef, undef, undef, undef, undef, undef, undef, undef, undef, undef, undef, undef, undef, undef, undef, undef, undef, undef, undef, undef, undef, undef, undef, undef, undef, undef, undef, undef, undef, undef, undef, undef, undef, undef, undef, undef, undef, undef, undef, undef, undef, undef, undef, undef, undef, undef, undef, undef, undef, undef, undef, undef, undef], defers := [] } ∧ Mem wq wv n1 n2 v10 v11 (bf 9) (bf 11) (bf 10) (bf 12) #[.int .i64 0, .int .i64 0, .int .i64 0, .int .i64 0, .int .i64 0, .bool false, .bool false] #[.int .i64 0, .int .i64 0, .int .i64 0] ∧ (bf 0 = true → v27 = .int .i64 code) ∧ (bf 1 = true → v28 = .int .i64 b) ∧ (bf 2 = true → v29 = .agg #[.int .i64 code, .int .i64 b, .int .i64 q, .int .i64 0, .int .i64 0, .bool true, .bool false]) ∧ (bf 3 = true → v30 = .agg #[.int .i64 1, .int .i64 p, .int .i64 0]) ∧ (bf 4 = true → v31 = .tuple #[.agg #[.int .i64 0, .int .i64 0, .int .i64 0, .int .i64 0, .int .i64 0, .bool false, .bool false], .agg #[.int .i64 0, .int .i64 0, .int .i64 0], .int .i64 1]) ∧ (bf 5 = true → v26 = .tuple #[.agg #[.int .i64 0, .int .i64 0, .int .i64 0, .int .i64 0, .int .i64 0, .bool false, .bool false], .agg #[.int .i64 0, .int .i64 0, .int .i64 0], .int .i64 1]) ∧ (bf 6 = true → v32 = .agg #[.int .i64 0, .int .i64 0, .int .i64 0, .int .i64 0, .int .i64 0, .bool false, .bool false]) ∧ (bf 7 = true → v33 = .agg #[.int .i64 0, .int .i64 0, .int .i64 0]) ∧ (bf 8 = true → v34 = .int .i64 1) ∧ (bf 13 = true → v12 = .int .i64 1)) (by kernel_rfl) (by decide +kernel) ?_ ?_ ?_
    · exact ⟨_, _, _, _, _, _, _, _, _, _, _, _, _, _, rfl, Mem.start _ _ _ _ _, (by simp), (by simp), (by simp), (by simp), (by simp), (by simp), (by simp), (by simp), (by simp), (by simp)⟩
    · refine ⟨?_, ?_, ?_, ?_, ?_, ?_, ?_, ?_, ?_, ?_, ?_, ?_, ?_, ?_, trivial⟩
      · intro bf ac wv hfb haf hJ K' hK
        obtain ⟨n1, n2, v27, v28, v29, v30, v31, v26, v32, v33, v34, v10, v11, v12, rfl, hM, g27, g28, g29, g30, g31, g26, g32, g33, g34, g12⟩ := hJ
        replace hK := Lib.hid hK
        replace hM := Lib.hid hM
        replace g27 := Lib.hid g27
        replace g28 := Lib.hid g28
        replace g29 := Lib.hid g29
        replace g30 := Lib.hid g30
        replace g31 := Lib.hid g31
        replace g26 := Lib.hid g26
        replace g32 := Lib.hid g32
        replace g33 := Lib.hid g33
        replace g34 := Lib.hid g34
        replace g12 := Lib.hid g12
        go_simp
        exact hK.out _ _ ⟨n1, n2, .int .i64 code, v28, v29, v30, v31, v26, v32, v33, v34, v10, v11, v12, rfl, hM.out, fun _ => rfl, g28.out, g29.out, g30.out, g31.out, g26.out, g32.out, g33.out, g34.out, g12.out⟩
      · intro bf ac wv hfb haf hJ K' hK
        obtain ⟨n1, n2, v27, v28, v29, v30, v31, v26, v32, v33, v34, v10, v11, v12, rfl, hM, g27, g28, g29, g30, g31, g26, g32, g33, g34, g12⟩ := hJ
        replace hK := Lib.hid hK
        replace hM := Lib.hid hM
        replace g27 := Lib.hid g27
        replace g28 := Lib.hid g28
        replace g29 := Lib.hid g29
        replace g30 := Lib.hid g30
        replace g31 := Lib.hid g31
        replace g26 := Lib.hid g26
        replace g32 := Lib.hid g32
        replace g33 := Lib.hid g33
        replace g34 := Lib.hid g34
        replace g12 := Lib.hid g12
        go_simp
        exact hK.out _ _ ⟨n1, n2, v27, .int .i64 b, v29, v30, v31, v26, v32, v33, v34, v10, v11, v12, rfl, hM.out, g27.out, fun _ => rfl, g29.out, g30.out, g31.out, g26.out, g32.out, g33.out, g34.out, g12.out⟩
      · intro bf ac wv hfb haf hJ K' hK
        obtain ⟨n1, n2, v27, v28, v29, v30, v31, v26, v32, v33, v34, v10, v11, v12, rfl, hM, g27, g28, g29, g30, g31, g26, g32, g33, g34, g12⟩ := hJ
        replace hK := Lib.hid hK
        replace hM := Lib.hid hM
        replace g27 := Lib.hid g27
        replace g28 := Lib.hid g28
        replace g29 := Lib.hid g29
        replace g30 := Lib.hid g30
        replace g31 := Lib.hid g31
        replace g26 := Lib.hid g26
        replace g32 := Lib.hid g32
        replace g33 := Lib.hid g33
        replace g34 := Lib.hid g34
        replace g12 := Lib.hid g12
        simp [Region.binds] at haf
        have hb0 : bf 0 = true := by simp [haf]
        have hb1 : bf 1 = true := by simp [haf]
        obtain rfl := g27.out hb0
        obtain rfl := g28.out hb1
        go_simp
        go_at_call 14
        refine (hub_is code b q _ hq.out).mono ?_
        rintro e w4 ⟨rfl, b4⟩
        exact hK.out _ _ ⟨n1, n2, .int .i64 code, .int .i64 b, .agg #[.int .i64 code, .int .i64 b, .int .i64 q, .int .i64 0, .int .i64 0, .bool true, .bool false], v30, v31, v26, v32, v33, v34, v10, v11, v12, rfl, hM.out.step b4, g27.out, g28.out, fun _ => rfl, g30.out, g31.out, g26.out, g32.out, g33.out, g34.out, g12.out⟩
      · intro bf ac wv hfb haf hJ K' hK
        obtain ⟨n1, n2, v27, v28, v29, v30, v31, v26, v32, v33, v34, v10, v11, v12, rfl, hM, g27, g28, g29, g30, g31, g26, g32, g33, g34, g12⟩ := hJ
        replace hK := Lib.hid hK
        replace hM := Lib.hid hM
        replace g27 := Lib.hid g27
        replace g28 := Lib.hid g28
        replace g29 := Lib.hid g29
        replace g30 := Lib.hid g30
        replace g31 := Lib.hid g31
        replace g26 := Lib.hid g26
        replace g32 := Lib.hid g32
        replace g33 := Lib.hid g33
        replace g34 := Lib.hid g34
        replace g12 := Lib.hid g12
        have hA := KA_6.out.step hM.out.below
        have xA0 := hA.c 0 rfl
        have xA1 := hA.c 1 rfl
        have xA2 := hA.c 2 rfl
        have zA := hA.2.2
        clear hA
        go_simp
        exact hK.out _ _ ⟨n1, n2, v27, v28, v29, .agg #[.int .i64 1, .int .i64 p, .int .i64 0], v31, v26, v32, v33, v34, v10, v11, v12, rfl, hM.out, g27.out, g28.out, g29.out, fun _ => rfl, g31.out, g26.out, g32.out, g33.out, g34.out, g12.out⟩
      · intro bf ac wv hfb haf hJ K' hK
        obtain ⟨n1, n2, v27, v28, v29, v30, v31, v26, v32, v33, v34, v10, v11, v12, rfl, hM, g27, g28, g29, g30, g31, g26, g32, g33, g34, g12⟩ := hJ
        replace hK := Lib.hid hK
        replace hM := Lib.hid hM
        replace g27 := Lib.hid g27
        replace g28 := Lib.hid g28
        replace g29 := Lib.hid g29
        replace g30 := Lib.hid g30
        replace g31 := Lib.hid g31
        replace g26 := Lib.hid g26
        replace g32 := Lib.hid g32
        replace g33 := Lib.hid g33
        replace g34 := Lib.hid g34
        replace g12 := Lib.hid g12
        simp [Region.binds] at haf
        have hb2 : bf 2 = true := by simp [haf]
        have hb3 : bf 3 = true := by simp [haf]
        obtain rfl := g29.out hb2
        obtain rfl := g30.out hb3
        go_simp
        go_at_call 12
        refine (recv_is code b q 0 0 true false 1 p 0 1 _ _ _ hw1.out).mono ?_
        rintro e w5 ⟨rfl, b5⟩
        exact hK.out _ _ ⟨n1, n2, v27, v28, .agg #[.int .i64 code, .int .i64 b, .int .i64 q, .int .i64 0, .int .i64 0, .bool true, .bool false], .agg #[.int .i64 1, .int .i64 p, .int .i64 0], .tuple #[.agg #[.int .i64 0, .int .i64 0, .int .i64 0, .int .i64 0, .int .i64 0, .bool false, .bool false], .agg #[.int .i64 0, .int .i64 0, .int .i64 0], .int .i64 1], v26, v32, v33, v34, v10, v11, v12, rfl, hM.out.step b5, g27.out, g28.out, g29.out, g30.out, fun _ => rfl, g26.out, g32.out, g33.out, g34.out, g12.out⟩
      · intro bf ac wv hfb haf hJ K' hK
        obtain ⟨n1, n2, v27, v28, v29, v30, v31, v26, v32, v33, v34, v10, v11, v12, rfl, hM, g27, g28, g29, g30, g31, g26, g32, g33, g34, g12⟩ := hJ
        replace hK := Lib.hid hK
        replace hM := Lib.hid hM
        replace g27 := Lib.hid g27
        replace g28 := Lib.hid g28
        replace g29 := Lib.hid g29
        replace g30 := Lib.hid g30
        replace g31 := Lib.hid g31
        replace g26 := Lib.hid g26
        replace g32 := Lib.hid g32
        replace g33 := Lib.hid g33
        replace g34 := Lib.hid g34
        replace g12 := Lib.hid g12
        simp [Region.binds] at haf
        have hb4 : bf 4 = true := by simp [haf]
        obtain rfl := g31.out hb4
        go_simp
        exact hK.out _ _ ⟨n1, n2, v27, v28, v29, v30, .tuple #[.agg #[.int .i64 0, .int .i64 0, .int .i64 0, .int .i64 0, .int .i64 0, .bool false, .bool false], .agg #[.int .i64 0, .int .i64 0, .int .i64 0], .int .i64 1], .tuple #[.agg #[.int .i64 0, .int .i64 0, .int .i64 0, .int .i64 0, .int .i64 0, .bool false, .bool false], .agg #[.int .i64 0, .int .i64 0, .int .i64 0], .int .i64 1], v32, v33, v34, v10, v11, v12, rfl, hM.out, g27.out, g28.out, g29.out, g30.out, g31.out, fun _ => rfl, g32.out, g33.out, g34.out, g12.out⟩
      · intro bf ac wv hfb haf hJ K' hK
        obtain ⟨n1, n2, v27, v28, v29, v30, v31, v26, v32, v33, v34, v10, v11, v12, rfl, hM, g27, g28, g29, g30, g31, g26, g32, g33, g34, g12⟩ := hJ
        replace hK := Lib.hid hK
        replace hM := Lib.hid hM
        replace g27 := Lib.hid g27
        replace g28 := Lib.hid g28
        replace g29 := Lib.hid g29
        replace g30 := Lib.hid g30
        replace g31 := Lib.hid g31
        replace g26 := Lib.hid g26
        replace g32 := Lib.hid g32
        replace g33 := Lib.hid g33
        replace g34 := Lib.hid g34
        replace g12 := Lib.hid g12
        simp [Region.binds] at haf
        have hb5 : bf 5 = true := by simp [haf]
        obtain rfl := g26.out hb5
        go_simp
        exact hK.out _ _ ⟨n1, n2, v27, v28, v29, v30, v31, .tuple #[.agg #[.int .i64 0, .int .i64 0, .int .i64 0, .int .i64 0, .int .i64 0, .bool false, .bool false], .agg #[.int .i64 0, .int .i64 0, .int .i64 0], .int .i64 1], .agg #[.int .i64 0, .int .i64 0, .int .i64 0, .int .i64 0, .int .i64 0, .bool false, .bool false], v33, v34, v10, v11, v12, rfl, hM.out, g27.out, g28.out, g29.out, g30.out, g31.out, g26.out, fun _ => rfl, g33.out, g34.out, g12.out⟩
      · intro bf ac wv hfb haf hJ K' hK
        obtain ⟨n1, n2, v27, v28, v29, v30, v31, v26, v32, v33, v34, v10, v11, v12, rfl, hM, g27, g28, g29, g30, g31, g26, g32, g33, g34, g12⟩ := hJ
        replace hK := Lib.hid hK
        replace hM := Lib.hid hM
        replace g27 := Lib.hid g27
        replace g28 := Lib.hid g28
        replace g29 := Lib.hid g29
        replace g30 := Lib.hid g30
        replace g31 := Lib.hid g31
        replace g26 := Lib.hid g26
        replace g32 := Lib.hid g32
        replace g33 := Lib.hid g33
        replace g34 := Lib.hid g34
        replace g12 := Lib.hid g12
        simp [Region.binds] at haf
        have hb5 : bf 5 = true := by simp [haf]
        obtain rfl := g26.out hb5
        go_simp
        exact hK.out _ _ ⟨n1, n2, v27, v28, v29, v30, v31, .tuple #[.agg #[.int .i64 0, .int .i64 0, .int .i64 0, .int .i64 0, .int .i64 0, .bool false, .bool false], .agg #[.int .i64 0, .int .i64 0, .int .i64 0], .int .i64 1], v32, .agg #[.int .i64 0, .int .i64 0, .int .i64 0], v34, v10, v11, v12, rfl, hM.out, g27.out, g28.out, g29.out, g30.out, g31.out, g26.out, g32.out, fun _ => rfl, g34.out, g12.out⟩
      · intro bf ac wv hfb haf hJ K' hK
        obtain ⟨n1, n2, v27, v28, v29, v30, v31, v26, v32, v33, v34, v10, v11, v12, rfl, hM, g27, g28, g29, g30, g31, g26, g32, g33, g34, g12⟩ := hJ
        replace hK := Lib.hid hK
        replace hM := Lib.hid hM
        replace g27 := Lib.hid g27
        replace g28 := Lib.hid g28
        replace g29 := Lib.hid g29
        replace g30 := Lib.hid g30
        replace g31 := Lib.hid g31
        replace g26 := Lib.hid g26
        replace g32 := Lib.hid g32
        replace g33 := Lib.hid g33
        replace g34 := Lib.hid g34
        replace g12 := Lib.hid g12
        simp [Region.binds] at haf
        have hb5 : bf 5 = true := by simp [haf]
        obtain rfl := g26.out hb5
        go_simp
        exact hK.out _ _ ⟨n1, n2, v27, v28, v29, v30, v31, .tuple #[.agg #[.int .i64 0, .int .i64 0, .int .i64 0, .int .i64 0, .int .i64 0, .bool false, .bool false], .agg #[.int .i64 0, .int .i64 0, .int .i64 0], .int .i64 1], v32, v33, .int .i64 1, v10, v11, v12, rfl, hM.out, g27.out, g28.out, g29.out, g30.out, g31.out, g26.out, g32.out, g33.out, fun _ => rfl, g12.out⟩
      · intro bf ac wv hfb haf hJ K' hK
        obtain ⟨n1, n2, v27, v28, v29, v30, v31, v26, v32, v33, v34, v10, v11, v12, rfl, hM, g27, g28, g29, g30, g31, g26, g32, g33, g34, g12⟩ := hJ
        replace hK := Lib.hid hK
        replace hM := Lib.hid hM
        replace g27 := Lib.hid g27
        replace g28 := Lib.hid g28
        replace g29 := Lib.hid g29
        replace g30 := Lib.hid g30
        replace g31 := Lib.hid g31
        replace g26 := Lib.hid g26
        replace g32 := Lib.hid g32
        replace g33 := Lib.hid g33
        replace g34 := Lib.hid g34
        replace g12 := Lib.hid g12
        obtain ⟨m2, hM2⟩ := hM.out.alloc1 hfb
        have hM2 := Lib.hid hM2
        clear hM
        go_simp
        exact hK.out _ _ ⟨_, m2, v27, v28, v29, v30, v31, v26, v32, v33, v34, _, v11, v12, rfl, hM2.out, g27.out, g28.out, g29.out, g30.out, g31.out, g26.out, g32.out, g33.out, g34.out, g12.out⟩
      · intro bf ac wv hfb haf hJ K' hK
        obtain ⟨n1, n2, v27, v28, v29, v30, v31, v26, v32, v33, v34, v10, v11, v12, rfl, hM, g27, g28, g29, g30, g31, g26, g32, g33, g34, g12⟩ := hJ
        replace hK := Lib.hid hK
        replace hM := Lib.hid hM
        replace g27 := Lib.hid g27
        replace g28 := Lib.hid g28
        replace g29 := Lib.hid g29
        replace g30 := Lib.hid g30
        replace g31 := Lib.hid g31
        replace g26 := Lib.hid g26
        replace g32 := Lib.hid g32
        replace g33 := Lib.hid g33
        replace g34 := Lib.hid g34
        replace g12 := Lib.hid g12
        obtain ⟨m1, hM2⟩ := hM.out.alloc2 hfb
        have hM2 := Lib.hid hM2
        clear hM
        go_simp
        exact hK.out _ _ ⟨m1, _, v27, v28, v29, v30, v31, v26, v32, v33, v34, v10, _, v12, rfl, hM2.out, g27.out, g28.out, g29.out, g30.out, g31.out, g26.out, g32.out, g33.out, g34.out, g12.out⟩
      · intro bf ac wv hfb haf hJ K' hK
        obtain ⟨n1, n2, v27, v28, v29, v30, v31, v26, v32, v33, v34, v10, v11, v12, rfl, hM, g27, g28, g29, g30, g31, g26, g32, g33, g34, g12⟩ := hJ
        replace hK := Lib.hid hK
        replace hM := Lib.hid hM
        replace g27 := Lib.hid g27
        replace g28 := Lib.hid g28
        replace g29 := Lib.hid g29
        replace g30 := Lib.hid g30
        replace g31 := Lib.hid g31
        replace g26 := Lib.hid g26
        replace g32 := Lib.hid g32
        replace g33 := Lib.hid g33
        replace g34 := Lib.hid g34
        replace g12 := Lib.hid g12
        simp [Region.binds] at haf
        have hb6 : bf 6 = true := by simp [haf]
        have hb9 : bf 9 = true := by simp [haf]
        obtain rfl := g32.out hb6
        obtain ⟨rfl, hZ⟩ := hM.out.zero1 hb9 hfb
        have hZ := Lib.hid hZ
        unfold ptr at hM hK ⊢
        have xZ0 := hZ.out.c 0 rfl
        have yZ0 := hZ.out.f 0 (by simp)
        have xZ1 := hZ.out.c 1 rfl
        have yZ1 := hZ.out.f 1 (by simp)
        have xZ2 := hZ.out.c 2 rfl
        have yZ2 := hZ.out.f 2 (by simp)
        have xZ3 := hZ.out.c 3 rfl
        have yZ3 := hZ.out.f 3 (by simp)
        have xZ4 := hZ.out.c 4 rfl
        have yZ4 := hZ.out.f 4 (by simp)
        have xZ5 := hZ.out.c 5 rfl
        have yZ5 := hZ.out.f 5 (by simp)
        have xZ6 := hZ.out.c 6 rfl
        have yZ6 := hZ.out.f 6 (by simp)
        have zZ := hZ.out.2.2
        go_simp
        have hM3 := hM.out; rw [hb9] at hM3
        have hM4 := hM3.store1 (Turned.all7 hZ.out)
        exact hK.out _ _ ⟨n1, n2, v27, v28, v29, v30, v31, v26, .agg #[.int .i64 0, .int .i64 0, .int .i64 0, .int .i64 0, .int .i64 0, .bool false, .bool false], v33, v34, .pointer (some ⟨n1, 0, none⟩), v11, v12, rfl, (by rw [show up bf 11 9 = true from hb9]; exact hM4), g27.out, g28.out, g29.out, g30.out, g31.out, g26.out, g32.out, g33.out, g34.out, g12.out⟩
      · intro bf ac wv hfb haf hJ K' hK
        obtain ⟨n1, n2, v27, v28, v29, v30, v31, v26, v32, v33, v34, v10, v11, v12, rfl, hM, g27, g28, g29, g30, g31, g26, g32, g33, g34, g12⟩ := hJ
        replace hK := Lib.hid hK
        replace hM := Lib.hid hM
        replace g27 := Lib.hid g27
        replace g28 := Lib.hid g28
        replace g29 := Lib.hid g29
        replace g30 := Lib.hid g30
        replace g31 := Lib.hid g31
        replace g26 := Lib.hid g26
        replace g32 := Lib.hid g32
        replace g33 := Lib.hid g33
        replace g34 := Lib.hid g34
        replace g12 := Lib.hid g12
        simp [Region.binds] at haf
        have hb7 : bf 7 = true := by simp [haf]
        have hb10 : bf 10 = true := by simp [haf]
        obtain rfl := g33.out hb7
        obtain ⟨rfl, hZ⟩ := hM.out.zero2 hb10 hfb
        have hZ := Lib.hid hZ
        unfold ptr at hM hK ⊢
        have xZ0 := hZ.out.c 0 rfl
        have yZ0 := hZ.out.f 0 (by simp)
        have xZ1 := hZ.out.c 1 rfl
        have yZ1 := hZ.out.f 1 (by simp)
        have xZ2 := hZ.out.c 2 rfl
        have yZ2 := hZ.out.f 2 (by simp)
        have zZ := hZ.out.2.2
        go_simp
        have hM3 := hM.out; rw [hb10] at hM3
        have hM4 := hM3.store2 (Turned.all3 hZ.out)
        exact hK.out _ _ ⟨n1, n2, v27, v28, v29, v30, v31, v26, v32, .agg #[.int .i64 0, .int .i64 0, .int .i64 0], v34, v10, .pointer (some ⟨n2, 0, none⟩), v12, rfl, (by rw [show up bf 12 10 = true from hb10]; exact hM4), g27.out, g28.out, g29.out, g30.out, g31.out, g26.out, g32.out, g33.out, g34.out, g12.out⟩
      · intro bf ac wv hfb haf hJ K' hK
        obtain ⟨n1, n2, v27, v28, v29, v30, v31, v26, v32, v33, v34, v10, v11, v12, rfl, hM, g27, g28, g29, g30, g31, g26, g32, g33, g34, g12⟩ := hJ
        replace hK := Lib.hid hK
        replace hM := Lib.hid hM
        replace g27 := Lib.hid g27
        replace g28 := Lib.hid g28
        replace g29 := Lib.hid g29
        replace g30 := Lib.hid g30
        replace g31 := Lib.hid g31
        replace g26 := Lib.hid g26
        replace g32 := Lib.hid g32
        replace g33 := Lib.hid g33
        replace g34 := Lib.hid g34
        replace g12 := Lib.hid g12
        simp [Region.binds] at haf
        have hb8 : bf 8 = true := by simp [haf]
        obtain rfl := g34.out hb8
        go_simp
        exact hK.out _ _ ⟨n1, n2, v27, v28, v29, v30, v31, v26, v32, v33, .int .i64 1, v10, v11, .int .i64 1, rfl, hM.out, g27.out, g28.out, g29.out, g30.out, g31.out, g26.out, g32.out, g33.out, g34.out, fun _ => rfl⟩
    · intro bf ac wv hall hJ
      obtain ⟨n1, n2, v27, v28, v29, v30, v31, v26, v32, v33, v34, v10, v11, v12, rfl, hM, g27, g28, g29, g30, g31, g26, g32, g33, g34, g12⟩ := hJ
      obtain rfl := g12 (hall 13 (by decide))
      rw [hall 9 (by decide), hall 10 (by decide), hall 11 (by decide), hall 12 (by decide)] at hM
      obtain ⟨rfl, h1⟩ := hM.c1 rfl
      obtain ⟨rfl, h2⟩ := hM.c2 rfl
      have hB := hM.below
      clear g27 g28 g29 g30 g31 g26 g32 g33 g34 g12 hM hall
      unfold ptr
      go_wp2
      go_meet
      exact ⟨n1, n2, rfl, rfl, rfl, Lib.hid h1, Lib.hid h2, hB⟩
  case rest =>
    obtain ⟨n1, n2, rfl, rfl, rfl, hJ, hH, hB⟩ := hcut
    have KD_8 := Lib.hid (KD_5.out.step hB)
    clear KD_5
    have KA_9 := Lib.hid (KA_6.out.step hB)
    clear KA_6
    have HB10 := Lib.hid (keep2 hB HB7.out)
    clear HB7 hB
    have xA0 : wc.cell? ⟨u2.heap.size + 1, 0, none⟩ = some (.int .i64 1) := KA_9.out.c 0 rfl
    have xA1 : wc.cell? ⟨u2.heap.size + 1, 1, none⟩ = some (.int .i64 p) := KA_9.out.c 1 rfl
    have xA2 : wc.cell? ⟨u2.heap.size + 1, 2, none⟩ = some (.int .i64 0) := KA_9.out.c 2 rfl
    have zA : u2.heap.size + 1 < wc.heap.size := KA_9.out.2.2
    have z2A : u2.heap.size + 1 < wc.heap.size + 1 := by omega
    go_wp2_with fail
    refine (racc_at p false _ ha.out).mono ?_
    rintro e _ ⟨rfl, rfl⟩
    go_wp2
    go_ret
    exact ⟨rfl, HB10.out⟩
set_option maxRecDepth 100000 in
set_option maxHeartbeats 4000000 in
theorem agrees_no2 (code a b p q r : Int) (w : World) (hp : pw 7 a = p) (hq : pw 7 b = q) (ha : accB p = true) (hb : accB q = false) (hw1 : RW code b q 0 0 true false 1 p 0 0 (jc code b q p 0 true false) (hc3 2 q r)) (hw2 : RW code a p 0 0 false false 2 q r 1 zj zh) : Calls Try.prog 4 #[.int .i64 code, .int .i64 a, .int .i64 b] w fun e w' => e = .returned (.bool true) ∧ Below w.heap.size w w' := by
  replace hp := Lib.hid hp
  replace hq := Lib.hid hq
  replace ha := Lib.hid ha
  replace hb := Lib.hid hb
  replace hw1 := Lib.hid hw1
  replace hw2 := Lib.hid hw2
  have HB0 := Lib.hid (Below.refl w.heap.size w)
  go_enter Try.func4, Try.ntmps4
  go_wp2_with fail
  refine (head_any _).mono ?_
  rintro e u1 ⟨rfl, b1⟩
  have HB1 := Lib.hid (keep2 b1 HB0.out)
  clear HB0 b1
  go_wp2_with fail
  refine (device_is code a p _ hp.out).mono ?_
  rintro e u2 ⟨rfl, b2⟩
  have HB2 := Lib.hid (keep2 b2 HB1.out)
  clear HB1 b2
  have KD_3 := Lib.hid (Cs.new u2 (u2.heap.size) #[.int .i64 code, .int .i64 a, .int .i64 p, .int .i64 0, .int .i64 0, .bool false, .bool false] 23 (by simp))
  have HB4 : Hid (Below w.heap.size w (u2.alloc (.cells #[.int .i64 code, .int .i64 a, .int .i64 p, .int .i64 0, .int .i64 0, .bool false, .bool false] 23))) := HB2.out.alloc HB2.out.size _
  clear HB2
  have KD_5 := Lib.hid (KD_3.out.alloc (.cells #[.int .i64 1, .int .i64 p, .int .i64 0] 25))
  clear KD_3
  have KA_6 := Lib.hid (Cs.new (u2.alloc (.cells #[.int .i64 code, .int .i64 a, .int .i64 p, .int .i64 0, .int .i64 0, .bool false, .bool false] 23)) (u2.heap.size + 1) #[.int .i64 1, .int .i64 p, .int .i64 0] 25 (by simp))
  have HB7 : Hid (Below w.heap.size w ((u2.alloc (.cells #[.int .i64 code, .int .i64 a, .int .i64 p, .int .i64 0, .int .i64 0, .bool false, .bool false] 23)).alloc (.cells #[.int .i64 1, .int .i64 p, .int .i64 0] 25))) := HB4.out.alloc HB4.out.size _
  clear HB4
  go_upto_region 3 with fail
  obtain ⟨wq, hwq⟩ : ∃ wq, ((u2.alloc (.cells #[.int .i64 code, .int .i64 a, .int .i64 p, .int .i64 0, .int .i64 0, .bool false, .bool false] 23)).alloc (.cells #[.int .i64 1, .int .i64 p, .int .i64 0] 25)) = wq := ⟨_, rfl⟩
  rw [hwq] at KD_5
  rw [hwq] at KA_6
  rw [hwq] at HB7 ⊢
  clear hwq
  go_cut [10, 11, 12] from 26 to 34 (fun pc qc rc wc => ∃ n1 n2 : Nat, pc = .pointer (some ⟨n1, 0, none⟩) ∧ qc = .pointer (some ⟨n2, 0, none⟩) ∧ rc = .int .i64 0 ∧ Hid (Cs wc n1 #[.int .i64 code, .int .i64 b, .int .i64 q, .int .i64 p, .int .i64 0, .bool true, .bool false]) ∧ Hid (Cs wc n2 #[.int .i64 2, .int .i64 q, .int .i64 r]) ∧ Below wq.heap.size wq wc)
  case first =>
    refine region_inv (fun bf ac wv => ∃ (n1 n2 : Nat) (v27 v28 v29 v30 v31 v26 v32 v33 v34 v10 v11 v12 : Value), ac = { tmps := #[.int .i64 code, .int .i64 a, .int .i64 b, undef, undef, undef, .bool false, .bool true, .pointer (some ⟨u2.heap.size, 0, none⟩), .pointer (some ⟨u2.heap.size + 1, 0, none⟩), v10, v11, v12, undef, undef, undef, undef, undef, undef, .bool true, .tuple #[.agg #[.int .i64 code, .int .i64 a, .int .i64 p, .int .i64 0, .int .i64 0, .bool false, .bool false], .agg #[.int .i64 1, .int .i64 p, .int .i64 0]], .int .i64 code, .int .i64 a, .tuple #[.agg #[.int .i64 code, .int .i64 a, .int .i64 p, .int .i64 0, .int .i64 0, .bool false, .bool false], .agg #[.int .i64 1, .int .i64 p, .int .i64 0]], .agg #[.int .i64 code, .int .i64 a, .int .i64 p, .int .i64 0, .int .i64 0, .bool false, .bool false], .agg #[.int .i64 1, .int .i64 p, .int .i64 0], v26, v27, v28, v29, v30, v31, v32, v33, v34, undef, undef, undef, undef, undef, undef, undef, undef, undef, undef, undef, undef, undef, undef, undef, undef, undef, undef, undef, undef, undef, undef, undef, undef, undef, undef, undef, undef, undef, undef, undef, undef, undef, undef, undef, undef, undef, undef, undef, undef, undef, undef, undef, undef, undef, undef, undef, undef, undef, undef, undef, undef, undef, undef, undef, undef, undef, undef, undef, undef, undef, undef, undef, undef, undef, undef, undef, undef, undef, undef, undef, undef, undef, undef, undef, undef, undef, undef, undef, undef, undef, undef, undef, undef, undef, undef, undef, undef, undef, undef, undef], defers := [] } ∧ Mem wq wv n1 n2 v10 v11 (bf 9) (bf 11) (bf 10) (bf 12) #[.int .i64 code, .int .i64 b, .int .i64 q, .int .i64 p, .int .i64 0, .bool true, .bool false] #[.int .i64 2, .int .i64 q, .int .i64 r] ∧ (bf 0 = true → v27 = .int .i64 code) ∧ (bf 1 = true → v28 = .int .i64 b) ∧ (bf 2 = true → v29 = .agg #[.int .i64 code, .int .i64 b, .int .i64 q, .int .i64 0, .int .i64 0, .bool true, .bool false]) ∧ (bf 3 = true → v30 = .agg #[.int .i64 1, .int .i64 p, .int .i64 0]) ∧ (bf 4 = true → v31 = .tuple #[.agg #[.int .i64 code, .int .i64 b, .int .i64 q, .int .i64 p, .int .i64 0, .bool true, .bool false], .agg #[.int .i64 2, .int .i64 q, .int .i64 r], .int .i64 0]) ∧ (bf 5 = true → v26 = .tuple #[.agg #[.int .i64 code, .int .i64 b, .int .i64 q, .int .i64 p, .int .i64 0, .bool true, .bool false], .agg #[.int .i64 2, .int .i64 q, .int .i64 r], .int .i64 0]) ∧ (bf 6 = true → v32 = .agg #[.int .i64 code, .int .i64 b, .int .i64 q, .int .i64 p, .int .i64 0, .bool true, .bool false]) ∧ (bf 7 = true → v33 = .agg #[.int .i64 2, .int .i64 q, .int .i64 r]) ∧ (bf 8 = true → v34 = .int .i64 0) ∧ (bf 13 = true → v12 = .int .i64 0)) (by kernel_rfl) (by decide +kernel) ?_ ?_ ?_
    · exact ⟨_, _, _, _, _, _, _, _, _, _, _, _, _, _, rfl, Mem.start _ _ _ _ _, (by simp), (by simp), (by simp), (by simp), (by simp), (by simp), (by simp), (by simp), (by simp), (by simp)⟩
    · refine ⟨?_, ?_, ?_, ?_, ?_, ?_, ?_, ?_, ?_, ?_, ?_, ?_, ?_, ?_, trivial⟩
      · intro bf ac wv hfb haf hJ K' hK
        obtain ⟨n1, n2, v27, v28, v29, v30, v31, v26, v32, v33, v34, v10, v11, v12, rfl, hM, g27, g28, g29, g30, g31, g26, g32, g33, g34, g12⟩ := hJ
        replace hK := Lib.hid hK
        replace hM := Lib.hid hM
        replace g27 := Lib.hid g27
        replace g28 := Lib.hid g28
        replace g29 := Lib.hid g29
        replace g30 := Lib.hid g30
        replace g31 := Lib.hid g31
        replace g26 := Lib.hid g26
        replace g32 := Lib.hid g32
        replace g33 := Lib.hid g33
        replace g34 := Lib.hid g34
        replace g12 := Lib.hid g12
        go_simp
        exact hK.out _ _ ⟨n1, n2, .int .i64 code, v28, v29, v30, v31, v26, v32, v33, v34, v10, v11, v12, rfl, hM.out, fun _ => rfl, g28.out, g29.out, g30.out, g31.out, g26.out, g32.out, g33.out, g34.out, g12.out⟩
      · intro bf ac wv hfb haf hJ K' hK
        obtain ⟨n1, n2, v27, v28, v29, v30, v31, v26, v32, v33, v34, v10, v11, v12, rfl, hM, g27, g28, g29, g30, g31, g26, g32, g33, g34, g12⟩ := hJ
        replace hK := Lib.hid hK
        replace hM := Lib.hid hM
        replace g27 := Lib.hid g27
        replace g28 := Lib.hid g28
        replace g29 := Lib.hid g29
        replace g30 := Lib.hid g30
        replace g31 := Lib.hid g31
        replace g26 := Lib.hid g26
        replace g32 := Lib.hid g32
        replace g33 := Lib.hid g33
        replace g34 := Lib.hid g34
        replace g12 := Lib.hid g12
        go_simp
        exact hK.out _ _ ⟨n1, n2, v27, .int .i64 b, v29, v30, v31, v26, v32, v33, v34, v10, v11, v12, rfl, hM.out, g27.out, fun _ => rfl, g29.out, g30.out, g31.out, g26.out, g32.out, g33.out, g34.out, g12.out⟩
      · intro bf ac wv hfb haf hJ K' hK
        obtain ⟨n1, n2, v27, v28, v29, v30, v31, v26, v32, v33, v34, v10, v11, v12, rfl, hM, g27, g28, g29, g30, g31, g26, g32, g33, g34, g12⟩ := hJ
        replace hK := Lib.hid hK
        replace hM := Lib.hid hM
        replace g27 := Lib.hid g27
        replace g28 := Lib.hid g28
        replace g29 := Lib.hid g29
        replace g30 := Lib.hid g30
        replace g31 := Lib.hid g31
        replace g26 := Lib.hid g26
        replace g32 := Lib.hid g32
        replace g33 := Lib.hid g33
        replace g34 := Lib.hid g34
        replace g12 := Lib.hid g12
        simp [Region.binds] at haf
        have hb0 : bf 0 = true := by simp [haf]
        have hb1 : bf 1 = true := by simp [haf]
        obtain rfl := g27.out hb0
        obtain rfl := g28.out hb1
        go_simp
        go_at_call 14
        refine (hub_is code b q _ hq.out).mono ?_
        rintro e w4 ⟨rfl, b4⟩
        exact hK.out _ _ ⟨n1, n2, .int .i64 code, .int .i64 b, .agg #[.int .i64 code, .int .i64 b, .int .i64 q, .int .i64 0, .int .i64 0, .bool true, .bool false], v30, v31, v26, v32, v33, v34, v10, v11, v12, rfl, hM.out.step b4, g27.out, g28.out, fun _ => rfl, g30.out, g31.out, g26.out, g32.out, g33.out, g34.out, g12.out⟩
      · intro bf ac wv hfb haf hJ K' hK
        obtain ⟨n1, n2, v27, v28, v29, v30, v31, v26, v32, v33, v34, v10, v11, v12, rfl, hM, g27, g28, g29, g30, g31, g26, g32, g33, g34, g12⟩ := hJ
        replace hK := Lib.hid hK
        replace hM := Lib.hid hM
        replace g27 := Lib.hid g27
        replace g28 := Lib.hid g28
        replace g29 := Lib.hid g29
        replace g30 := Lib.hid g30
        replace g31 := Lib.hid g31
        replace g26 := Lib.hid g26
        replace g32 := Lib.hid g32
        replace g33 := Lib.hid g33
        replace g34 := Lib.hid g34
        replace g12 := Lib.hid g12
        have hA := KA_6.out.step hM.out.below
        have xA0 := hA.c 0 rfl
        have xA1 := hA.c 1 rfl
        have xA2 := hA.c 2 rfl
        have zA := hA.2.2
        clear hA
        go_simp
        exact hK.out _ _ ⟨n1, n2, v27, v28, v29, .agg #[.int .i64 1, .int .i64 p, .int .i64 0], v31, v26, v32, v33, v34, v10, v11, v12, rfl, hM.out, g27.out, g28.out, g29.out, fun _ => rfl, g31.out, g26.out, g32.out, g33.out, g34.out, g12.out⟩
      · intro bf ac wv hfb haf hJ K' hK
        obtain ⟨n1, n2, v27, v28, v29, v30, v31, v26, v32, v33, v34, v10, v11, v12, rfl, hM, g27, g28, g29, g30, g31, g26, g32, g33, g34, g12⟩ := hJ
        replace hK := Lib.hid hK
        replace hM := Lib.hid hM
        replace g27 := Lib.hid g27
        replace g28 := Lib.hid g28
        replace g29 := Lib.hid g29
        replace g30 := Lib.hid g30
        replace g31 := Lib.hid g31
        replace g26 := Lib.hid g26
        replace g32 := Lib.hid g32
        replace g33 := Lib.hid g33
        replace g34 := Lib.hid g34
        replace g12 := Lib.hid g12
        simp [Region.binds] at haf
        have hb2 : bf 2 = true := by simp [haf]
        have hb3 : bf 3 = true := by simp [haf]
        obtain rfl := g29.out hb2
        obtain rfl := g30.out hb3
        go_simp
        go_at_call 12
        refine (recv_is code b q 0 0 true false 1 p 0 0 _ _ _ hw1.out).mono ?_
        rintro e w5 ⟨rfl, b5⟩
        exact hK.out _ _ ⟨n1, n2, v27, v28, .agg #[.int .i64 code, .int .i64 b, .int .i64 q, .int .i64 0, .int .i64 0, .bool true, .bool false], .agg #[.int .i64 1, .int .i64 p, .int .i64 0], .tuple #[.agg #[.int .i64 code, .int .i64 b, .int .i64 q, .int .i64 p, .int .i64 0, .bool true, .bool false], .agg #[.int .i64 2, .int .i64 q, .int .i64 r], .int .i64 0], v26, v32, v33, v34, v10, v11, v12, rfl, hM.out.step b5, g27.out, g28.out, g29.out, g30.out, fun _ => rfl, g26.out, g32.out, g33.out, g34.out, g12.out⟩
      · intro bf ac wv hfb haf hJ K' hK
        obtain ⟨n1, n2, v27, v28, v29, v30, v31, v26, v32, v33, v34, v10, v11, v12, rfl, hM, g27, g28, g29, g30, g31, g26, g32, g33, g34, g12⟩ := hJ
        replace hK := Lib.hid hK
        replace hM := Lib.hid hM
        replace g27 := Lib.hid g27
        replace g28 := Lib.hid g28
        replace g29 := Lib.hid g29
        replace g30 := Lib.hid g30
        replace g31 := Lib.hid g31
        replace g26 := Lib.hid g26
        replace g32 := Lib.hid g32
        replace g33 := Lib.hid g33
        replace g34 := Lib.hid g34
        replace g12 := Lib.hid g12
        simp [Region.binds] at haf
        have hb4 : bf 4 = true := by simp [haf]
        obtain rfl := g31.out hb4
        go_simp
        exact hK.out _ _ ⟨n1, n2, v27, v28, v29, v30, .tuple #[.agg #[.int .i64 code, .int .i64 b, .int .i64 q, .int .i64 p, .int .i64 0, .bool true, .bool false], .agg #[.int .i64 2, .int .i64 q, .int .i64 r], .int .i64 0], .tuple #[.agg #[.int .i64 code, .int .i64 b, .int .i64 q, .int .i64 p, .int .i64 0, .bool true, .bool false], .agg #[.int .i64 2, .int .i64 q, .int .i64 r], .int .i64 0], v32, v33, v34, v10, v11, v12, rfl, hM.out, g27.out, g28.out, g29.out, g30.out, g31.out, fun _ => rfl, g32.out, g33.out, g34.out, g12.out⟩
      · intro bf ac wv hfb haf hJ K' hK
        obtain ⟨n1, n2, v27, v28, v29, v30, v31, v26, v32, v33, v34, v10, v11, v12, rfl, hM, g27, g28, g29, g30, g31, g26, g32, g33, g34, g12⟩ := hJ
        replace hK := Lib.hid hK
        replace hM := Lib.hid hM
        replace g27 := Lib.hid g27
        replace g28 := Lib.hid g28
        replace g29 := Lib.hid g29
        replace g30 := Lib.hid g30
        replace g31 := Lib.hid g31
        replace g26 := Lib.hid g26
        replace g32 := Lib.hid g32
        replace g33 := Lib.hid g33
        replace g34 := Lib.hid g34
        replace g12 := Lib.hid g12
        simp [Region.binds] at haf
        have hb5 : bf 5 = true := by simp [haf]
        obtain rfl := g26.out hb5
        go_simp
        exact hK.out _ _ ⟨n1, n2, v27, v28, v29, v30, v31, .tuple #[.agg #[.int .i64 code, .int .i64 b, .int .i64 q, .int .i64 p, .int .i64 0, .bool true, .bool false], .agg #[.int .i64 2, .int .i64 q, .int .i64 r], .int .i64 0], .agg #[.int .i64 code, .int .i64 b, .int .i64 q, .int .i64 p, .int .i64 0, .bool true, .bool false], v33, v34, v10, v11, v12, rfl, hM.out, g27.out, g28.out, g29.out, g30.out, g31.out, g26.out, fun _ => rfl, g33.out, g34.out, g12.out⟩
      · intro bf ac wv hfb haf hJ K' hK
        obtain ⟨n1, n2, v27, v28, v29, v30, v31, v26, v32, v33, v34, v10, v11, v12, rfl, hM, g27, g28, g29, g30, g31, g26, g32, g33, g34, g12⟩ := hJ
        replace hK := Lib.hid hK
        replace hM := Lib.hid hM
        replace g27 := Lib.hid g27
        replace g28 := Lib.hid g28
        replace g29 := Lib.hid g29
        replace g30 := Lib.hid g30
        replace g31 := Lib.hid g31
        replace g26 := Lib.hid g26
        replace g32 := Lib.hid g32
        replace g33 := Lib.hid g33
        replace g34 := Lib.hid g34
        replace g12 := Lib.hid g12
        simp [Region.binds] at haf
        have hb5 : bf 5 = true := by simp [haf]
        obtain rfl := g26.out hb5
        go_simp
        exact hK.out _ _ ⟨n1, n2, v27, v28, v29, v30, v31, .tuple #[.agg #[.int .i64 code, .int .i64 b, .int .i64 q, .int .i64 p, .int .i64 0, .bool true, .bool false], .agg #[.int .i64 2, .int .i64 q, .int .i64 r], .int .i64 0], v32, .agg #[.int .i64 2, .int .i64 q, .int .i64 r], v34, v10, v11, v12, rfl, hM.out, g27.out, g28.out, g29.out, g30.out, g31.out, g26.out, g32.out, fun _ => rfl, g34.out, g12.out⟩
      · intro bf ac wv hfb haf hJ K' hK
        obtain ⟨n1, n2, v27, v28, v29, v30, v31, v26, v32, v33, v34, v10, v11, v12, rfl, hM, g27, g28, g29, g30, g31, g26, g32, g33, g34, g12⟩ := hJ
        replace hK := Lib.hid hK
        replace hM := Lib.hid hM
        replace g27 := Lib.hid g27
        replace g28 := Lib.hid g28
        replace g29 := Lib.hid g29
        replace g30 := Lib.hid g30
        replace g31 := Lib.hid g31
        replace g26 := Lib.hid g26
        replace g32 := Lib.hid g32
        replace g33 := Lib.hid g33
        replace g34 := Lib.hid g34
        replace g12 := Lib.hid g12
        simp [Region.binds] at haf
        have hb5 : bf 5 = true := by simp [haf]
        obtain rfl := g26.out hb5
        go_simp
        exact hK.out _ _ ⟨n1, n2, v27, v28, v29, v30, v31, .tuple #[.agg #[.int .i64 code, .int .i64 b, .int .i64 q, .int .i64 p, .int .i64 0, .bool true, .bool false], .agg #[.int .i64 2, .int .i64 q, .int .i64 r], .int .i64 0], v32, v33, .int .i64 0, v10, v11, v12, rfl, hM.out, g27.out, g28.out, g29.out, g30.out, g31.out, g26.out, g32.out, g33.out, fun _ => rfl, g12.out⟩
      · intro bf ac wv hfb haf hJ K' hK
        obtain ⟨n1, n2, v27, v28, v29, v30, v31, v26, v32, v33, v34, v10, v11, v12, rfl, hM, g27, g28, g29, g30, g31, g26, g32, g33, g34, g12⟩ := hJ
        replace hK := Lib.hid hK
        replace hM := Lib.hid hM
        replace g27 := Lib.hid g27
        replace g28 := Lib.hid g28
        replace g29 := Lib.hid g29
        replace g30 := Lib.hid g30
        replace g31 := Lib.hid g31
        replace g26 := Lib.hid g26
        replace g32 := Lib.hid g32
        replace g33 := Lib.hid g33
        replace g34 := Lib.hid g34
        replace g12 := Lib.hid g12
        obtain ⟨m2, hM2⟩ := hM.out.alloc1 hfb
        have hM2 := Lib.hid hM2
        clear hM
        go_simp
        exact hK.out _ _ ⟨_, m2, v27, v28, v29, v30, v31, v26, v32, v33, v34, _, v11, v12, rfl, hM2.out, g27.out, g28.out, g29.out, g30.out, g31.out, g26.out, g32.out, g33.out, g34.out, g12.out⟩
      · intro bf ac wv hfb haf hJ K' hK
        obtain ⟨n1, n2, v27, v28, v29, v30, v31, v26, v32, v33, v34, v10, v11, v12, rfl, hM, g27, g28, g29, g30, g31, g26, g32, g33, g34, g12⟩ := hJ
        replace hK := Lib.hid hK
        replace hM := Lib.hid hM
        replace g27 := Lib.hid g27
        replace g28 := Lib.hid g28
        replace g29 := Lib.hid g29
        replace g30 := Lib.hid g30
        replace g31 := Lib.hid g31
        replace g26 := Lib.hid g26
        replace g32 := Lib.hid g32
        replace g33 := Lib.hid g33
        replace g34 := Lib.hid g34
        replace g12 := Lib.hid g12
        obtain ⟨m1, hM2⟩ := hM.out.alloc2 hfb
        have hM2 := Lib.hid hM2
        clear hM
        go_simp
        exact hK.out _ _ ⟨m1, _, v27, v28, v29, v30, v31, v26, v32, v33, v34, v10, _, v12, rfl, hM2.out, g27.out, g28.out, g29.out, g30.out, g31.out, g26.out, g32.out, g33.out, g34.out, g12.out⟩
      · intro bf ac wv hfb haf hJ K' hK
        obtain ⟨n1, n2, v27, v28, v29, v30, v31, v26, v32, v33, v34, v10, v11, v12, rfl, hM, g27, g28, g29, g30, g31, g26, g32, g33, g34, g12⟩ := hJ
        replace hK := Lib.hid hK
        replace hM := Lib.hid hM
        replace g27 := Lib.hid g27
        replace g28 := Lib.hid g28
        replace g29 := Lib.hid g29
        replace g30 := Lib.hid g30
        replace g31 := Lib.hid g31
        replace g26 := Lib.hid g26
        replace g32 := Lib.hid g32
        replace g33 := Lib.hid g33
        replace g34 := Lib.hid g34
        replace g12 := Lib.hid g12
        simp [Region.binds] at haf
        have hb6 : bf 6 = true := by simp [haf]
        have hb9 : bf 9 = true := by simp [haf]
        obtain rfl := g32.out hb6
        obtain ⟨rfl, hZ⟩ := hM.out.zero1 hb9 hfb
        have hZ := Lib.hid hZ
        unfold ptr at hM hK ⊢
        have xZ0 := hZ.out.c 0 rfl
        have yZ0 := hZ.out.f 0 (by simp)
        have xZ1 := hZ.out.c 1 rfl
        have yZ1 := hZ.out.f 1 (by simp)
        have xZ2 := hZ.out.c 2 rfl
        have yZ2 := hZ.out.f 2 (by simp)
        have xZ3 := hZ.out.c 3 rfl
        have yZ3 := hZ.out.f 3 (by simp)
        have xZ4 := hZ.out.c 4 rfl
        have yZ4 := hZ.out.f 4 (by simp)
        have xZ5 := hZ.out.c 5 rfl
        have yZ5 := hZ.out.f 5 (by simp)
        have xZ6 := hZ.out.c 6 rfl
        have yZ6 := hZ.out.f 6 (by simp)
        have zZ := hZ.out.2.2
        go_simp
        have hM3 := hM.out; rw [hb9] at hM3
        have hM4 := hM3.store1 (Turned.all7 hZ.out)
        exact hK.out _ _ ⟨n1, n2, v27, v28, v29, v30, v31, v26, .agg #[.int .i64 code, .int .i64 b, .int .i64 q, .int .i64 p, .int .i64 0, .bool true, .bool false], v33, v34, .pointer (some ⟨n1, 0, none⟩), v11, v12, rfl, (by rw [show up bf 11 9 = true from hb9]; exact hM4), g27.out, g28.out, g29.out, g30.out, g31.out, g26.out, g32.out, g33.out, g34.out, g12.out⟩
      · intro bf ac wv hfb haf hJ K' hK
        obtain ⟨n1, n2, v27, v28, v29, v30, v31, v26, v32, v33, v34, v10, v11, v12, rfl, hM, g27, g28, g29, g30, g31, g26, g32, g33, g34, g12⟩ := hJ
        replace hK := Lib.hid hK
        replace hM := Lib.hid hM
        replace g27 := Lib.hid g27
        replace g28 := Lib.hid g28
        replace g29 := Lib.hid g29
        replace g30 := Lib.hid g30
        replace g31 := Lib.hid g31
        replace g26 := Lib.hid g26
        replace g32 := Lib.hid g32
        replace g33 := Lib.hid g33
        replace g34 := Lib.hid g34
        replace g12 := Lib.hid g12
        simp [Region.binds] at haf
        have hb7 : bf 7 = true := by simp [haf]
        have hb10 : bf 10 = true := by simp [haf]
        obtain rfl := g33.out hb7
        obtain ⟨rfl, hZ⟩ := hM.out.zero2 hb10 hfb
        have hZ := Lib.hid hZ
        unfold ptr at hM hK ⊢
        have xZ0 := hZ.out.c 0 rfl
        have yZ0 := hZ.out.f 0 (by simp)
        have xZ1 := hZ.out.c 1 rfl
        have yZ1 := hZ.out.f 1 (by simp)
        have xZ2 := hZ.out.c 2 rfl
        have yZ2 := hZ.out.f 2 (by simp)
        have zZ := hZ.out.2.2
        go_simp
        have hM3 := hM.out; rw [hb10] at hM3
        have hM4 := hM3.store2 (Turned.all3 hZ.out)
        exact hK.out _ _ ⟨n1, n2, v27, v28, v29, v30, v31, v26, v32, .agg #[.int .i64 2, .int .i64 q, .int .i64 r], v34, v10, .pointer (some ⟨n2, 0, none⟩), v12, rfl, (by rw [show up bf 12 10 = true from hb10]; exact hM4), g27.out, g28.out, g29.out, g30.out, g31.out, g26.out, g32.out, g33.out, g34.out, g12.out⟩
      · intro bf ac wv hfb haf hJ K' hK
        obtain ⟨n1, n2, v27, v28, v29, v30, v31, v26, v32, v33, v34, v10, v11, v12, rfl, hM, g27, g28, g29, g30, g31, g26, g32, g33, g34, g12⟩ := hJ
        replace hK := Lib.hid hK
        replace hM := Lib.hid hM
        replace g27 := Lib.hid g27
        replace g28 := Lib.hid g28
        replace g29 := Lib.hid g29
        replace g30 := Lib.hid g30
        replace g31 := Lib.hid g31
        replace g26 := Lib.hid g26
        replace g32 := Lib.hid g32
        replace g33 := Lib.hid g33
        replace g34 := Lib.hid g34
        replace g12 := Lib.hid g12
        simp [Region.binds] at haf
        have hb8 : bf 8 = true := by simp [haf]
        obtain rfl := g34.out hb8
        go_simp
        exact hK.out _ _ ⟨n1, n2, v27, v28, v29, v30, v31, v26, v32, v33, .int .i64 0, v10, v11, .int .i64 0, rfl, hM.out, g27.out, g28.out, g29.out, g30.out, g31.out, g26.out, g32.out, g33.out, g34.out, fun _ => rfl⟩
    · intro bf ac wv hall hJ
      obtain ⟨n1, n2, v27, v28, v29, v30, v31, v26, v32, v33, v34, v10, v11, v12, rfl, hM, g27, g28, g29, g30, g31, g26, g32, g33, g34, g12⟩ := hJ
      obtain rfl := g12 (hall 13 (by decide))
      rw [hall 9 (by decide), hall 10 (by decide), hall 11 (by decide), hall 12 (by decide)] at hM
      obtain ⟨rfl, h1⟩ := hM.c1 rfl
      obtain ⟨rfl, h2⟩ := hM.c2 rfl
      have hB := hM.below
      clear g27 g28 g29 g30 g31 g26 g32 g33 g34 g12 hM hall
      unfold ptr
      go_wp2
      go_meet
      exact ⟨n1, n2, rfl, rfl, rfl, Lib.hid h1, Lib.hid h2, hB⟩
  case rest =>
    obtain ⟨n1, n2, rfl, rfl, rfl, hJ, hH, hB⟩ := hcut
    have KD_8 := Lib.hid (KD_5.out.step hB)
    clear KD_5
    have KA_9 := Lib.hid (KA_6.out.step hB)
    clear KA_6
    have HB10 := Lib.hid (keep2 hB HB7.out)
    clear HB7 hB
    have xA0 : wc.cell? ⟨u2.heap.size + 1, 0, none⟩ = some (.int .i64 1) := KA_9.out.c 0 rfl
    have xA1 : wc.cell? ⟨u2.heap.size + 1, 1, none⟩ = some (.int .i64 p) := KA_9.out.c 1 rfl
    have xA2 : wc.cell? ⟨u2.heap.size + 1, 2, none⟩ = some (.int .i64 0) := KA_9.out.c 2 rfl
    have zA : u2.heap.size + 1 < wc.heap.size := KA_9.out.2.2
    have z2A : u2.heap.size + 1 < wc.heap.size + 1 := by omega
    go_wp2_with fail
    refine (racc_at p true _ ha.out).mono ?_
    rintro e _ ⟨rfl, rfl⟩
    clear xA0 xA1 xA2 zA z2A
    have xD0 : wc.cell? ⟨u2.heap.size, 0, none⟩ = some (.int .i64 code) := KD_8.out.c 0 rfl
    have xD1 : wc.cell? ⟨u2.heap.size, 1, none⟩ = some (.int .i64 a) := KD_8.out.c 1 rfl
    have xD2 : wc.cell? ⟨u2.heap.size, 2, none⟩ = some (.int .i64 p) := KD_8.out.c 2 rfl
    have xD3 : wc.cell? ⟨u2.heap.size, 3, none⟩ = some (.int .i64 0) := KD_8.out.c 3 rfl
    have xD4 : wc.cell? ⟨u2.heap.size, 4, none⟩ = some (.int .i64 0) := KD_8.out.c 4 rfl
    have xD5 : wc.cell? ⟨u2.heap.size, 5, none⟩ = some (.bool false) := KD_8.out.c 5 rfl
    have xD6 : wc.cell? ⟨u2.heap.size, 6, none⟩ = some (.bool false) := KD_8.out.c 6 rfl
    have zD : u2.heap.size < wc.heap.size := KD_8.out.2.2
    have z2D : u2.heap.size < wc.heap.size + 1 := by omega
    have xB0 : wc.cell? ⟨n1, 0, none⟩ = some (.int .i64 code) := hJ.out.c 0 rfl
    have xB1 : wc.cell? ⟨n1, 1, none⟩ = some (.int .i64 b) := hJ.out.c 1 rfl
    have xB2 : wc.cell? ⟨n1, 2, none⟩ = some (.int .i64 q) := hJ.out.c 2 rfl
    have xB3 : wc.cell? ⟨n1, 3, none⟩ = some (.int .i64 p) := hJ.out.c 3 rfl
    have xB4 : wc.cell? ⟨n1, 4, none⟩ = some (.int .i64 0) := hJ.out.c 4 rfl
    have xB5 : wc.cell? ⟨n1, 5, none⟩ = some (.bool true) := hJ.out.c 5 rfl
    have xB6 : wc.cell? ⟨n1, 6, none⟩ = some (.bool false) := hJ.out.c 6 rfl
    have zB : n1 < wc.heap.size := hJ.out.2.2
    have z2B : n1 < wc.heap.size + 1 := by omega
    have xC0 : wc.cell? ⟨n2, 0, none⟩ = some (.int .i64 2) := hH.out.c 0 rfl
    have xC1 : wc.cell? ⟨n2, 1, none⟩ = some (.int .i64 q) := hH.out.c 1 rfl
    have xC2 : wc.cell? ⟨n2, 2, none⟩ = some (.int .i64 r) := hH.out.c 2 rfl
    have zC : n2 < wc.heap.size := hH.out.2.2
    have z2C : n2 < wc.heap.size + 1 := by omega
    go_wp2_with fail
    refine (recv_is code a p 0 0 false false 2 q r 1 _ _ _ hw2.out).mono ?_
    rintro e u3 ⟨rfl, b3⟩
    clear xD0 xD1 xD2 xD3 xD4 xD5 xD6 zD z2D xB0 xB1 xB2 xB3 xB4 xB5 xB6 zB z2B xC0 xC1 xC2 zC z2C
    have KD_11 := Lib.hid (KD_8.out.step b3)
    clear KD_8
    have KA_12 := Lib.hid (KA_9.out.step b3)
    clear KA_9
    have KB_13 := Lib.hid (hJ.out.step b3)
    clear hJ
    have KC_14 := Lib.hid (hH.out.step b3)
    clear hH
    have HB15 := Lib.hid (keep2 b3 HB10.out)
    clear HB10 b3
    have KD_16 := Lib.hid (KD_11.out.alloc (.cells #[.int .i64 0, .int .i64 0, .int .i64 0, .int .i64 0, .int .i64 0, .bool false, .bool false] 23))
    clear KD_11
    have KA_17 := Lib.hid (KA_12.out.alloc (.cells #[.int .i64 0, .int .i64 0, .int .i64 0, .int .i64 0, .int .i64 0, .bool false, .bool false] 23))
    clear KA_12
    have KB_18 := Lib.hid (KB_13.out.alloc (.cells #[.int .i64 0, .int .i64 0, .int .i64 0, .int .i64 0, .int .i64 0, .bool false, .bool false] 23))
    clear KB_13
    have KC_19 := Lib.hid (KC_14.out.alloc (.cells #[.int .i64 0, .int .i64 0, .int .i64 0, .int .i64 0, .int .i64 0, .bool false, .bool false] 23))
    clear KC_14
    have HB20 : Hid (Below w.heap.size w (u3.alloc (.cells #[.int .i64 0, .int .i64 0, .int .i64 0, .int .i64 0, .int .i64 0, .bool false, .bool false] 23))) := HB15.out.alloc HB15.out.size _
    clear HB15
    have KD_21 := Lib.hid (KD_16.out.alloc (.cells #[.int .i64 0, .int .i64 0, .int .i64 0] 25))
    clear KD_16
    have KA_22 := Lib.hid (KA_17.out.alloc (.cells #[.int .i64 0, .int .i64 0, .int .i64 0] 25))
    clear KA_17
    have KB_23 := Lib.hid (KB_18.out.alloc (.cells #[.int .i64 0, .int .i64 0, .int .i64 0] 25))
    clear KB_18
    have KC_24 := Lib.hid (KC_19.out.alloc (.cells #[.int .i64 0, .int .i64 0, .int .i64 0] 25))
    clear KC_19
    have HB25 : Hid (Below w.heap.size w ((u3.alloc (.cells #[.int .i64 0, .int .i64 0, .int .i64 0, .int .i64 0, .int .i64 0, .bool false, .bool false] 23)).alloc (.cells #[.int .i64 0, .int .i64 0, .int .i64 0] 25))) := HB20.out.alloc HB20.out.size _
    clear HB20
    have xC0 : ((u3.alloc (.cells #[.int .i64 0, .int .i64 0, .int .i64 0, .int .i64 0, .int .i64 0, .bool false, .bool false] 23)).alloc (.cells #[.int .i64 0, .int .i64 0, .int .i64 0] 25)).cell? ⟨n2, 0, none⟩ = some (.int .i64 2) := KC_24.out.c 0 rfl
    have xC1 : ((u3.alloc (.cells #[.int .i64 0, .int .i64 0, .int .i64 0, .int .i64 0, .int .i64 0, .bool false, .bool false] 23)).alloc (.cells #[.int .i64 0, .int .i64 0, .int .i64 0] 25)).cell? ⟨n2, 1, none⟩ = some (.int .i64 q) := KC_24.out.c 1 rfl
    have xC2 : ((u3.alloc (.cells #[.int .i64 0, .int .i64 0, .int .i64 0, .int .i64 0, .int .i64 0, .bool false, .bool false] 23)).alloc (.cells #[.int .i64 0, .int .i64 0, .int .i64 0] 25)).cell? ⟨n2, 2, none⟩ = some (.int .i64 r) := KC_24.out.c 2 rfl
    have zC : n2 < ((u3.alloc (.cells #[.int .i64 0, .int .i64 0, .int .i64 0, .int .i64 0, .int .i64 0, .bool false, .bool false] 23)).alloc (.cells #[.int .i64 0, .int .i64 0, .int .i64 0] 25)).heap.size := KC_24.out.2.2
    have z2C : n2 < ((u3.alloc (.cells #[.int .i64 0, .int .i64 0, .int .i64 0, .int .i64 0, .int .i64 0, .bool false, .bool false] 23)).alloc (.cells #[.int .i64 0, .int .i64 0, .int .i64 0] 25)).heap.size + 1 := by omega
    go_wp2_with fail
    refine (racc_at q false _ hb.out).mono ?_
    rintro e _ ⟨rfl, rfl⟩
    go_wp2
    go_ret
    exact ⟨rfl, HB25.out⟩
set_option maxRecDepth 100000 in
set_option maxHeartbeats 4000000 in
theorem agrees_yes (code a b p q r t K : Int) (w : World) (hp : pw 7 a = p) (hq : pw 7 b = q) (ha : accB p = true) (hb : accB q = true) (hk : K ≠ 0) (hw1 : RW code b q 0 0 true false 1 p 0 0 (jc code b q p 0 true false) (hc3 2 q r)) (hw2 : RW code a p 0 0 false false 2 q r 0 (jc code a p q K false true) (hc3 3 0 t)) (hw3 : RW code b q p 0 true false 3 0 t 0 (jc code b q p K true true) zh) : Calls Try.prog 4 #[.int .i64 code, .int .i64 a, .int .i64 b] w fun e w' => e = .returned (.bool true) ∧ Below w.heap.size w w' := by
  replace hp := Lib.hid hp
  replace hq := Lib.hid hq
  replace ha := Lib.hid ha
  replace hb := Lib.hid hb
  replace hw1 := Lib.hid hw1
  replace hw2 := Lib.hid hw2
  replace hw3 := Lib.hid hw3
  have hk1 : (K == 0) = false := by simpa using hk
  have hk2 : (K != 0) = true := by simpa using hk
  have hk3 : decide (K = 0) = false := by simpa using hk
  have HB0 := Lib.hid (Below.refl w.heap.size w)
  go_enter Try.func4, Try.ntmps4
  go_wp2_with fail
  refine (head_any _).mono ?_
  rintro e u1 ⟨rfl, b1⟩
  have HB1 := Lib.hid (keep2 b1 HB0.out)
  clear HB0 b1
  go_wp2_with fail
  refine (device_is code a p _ hp.out).mono ?_
  rintro e u2 ⟨rfl, b2⟩
  have HB2 := Lib.hid (keep2 b2 HB1.out)
  clear HB1 b2
  have KD_3 := Lib.hid (Cs.new u2 (u2.heap.size) #[.int .i64 code, .int .i64 a, .int .i64 p, .int .i64 0, .int .i64 0, .bool false, .bool false] 23 (by simp))
  have HB4 : Hid (Below w.heap.size w (u2.alloc (.cells #[.int .i64 code, .int .i64 a, .int .i64 p, .int .i64 0, .int .i64 0, .bool false, .bool false] 23))) := HB2.out.alloc HB2.out.size _
  clear HB2
  have KD_5 := Lib.hid (KD_3.out.alloc (.cells #[.int .i64 1, .int .i64 p, .int .i64 0] 25))
  clear KD_3
  have KA_6 := Lib.hid (Cs.new (u2.alloc (.cells #[.int .i64 code, .int .i64 a, .int .i64 p, .int .i64 0, .int .i64 0, .bool false, .bool false] 23)) (u2.heap.size + 1) #[.int .i64 1, .int .i64 p, .int .i64 0] 25 (by simp))
  have HB7 : Hid (Below w.heap.size w ((u2.alloc (.cells #[.int .i64 code, .int .i64 a, .int .i64 p, .int .i64 0, .int .i64 0, .bool false, .bool false] 23)).alloc (.cells #[.int .i64 1, .int .i64 p, .int .i64 0] 25))) := HB4.out.alloc HB4.out.size _
  clear HB4
  go_upto_region 3 with fail
  obtain ⟨wq, hwq⟩ : ∃ wq, ((u2.alloc (.cells #[.int .i64 code, .int .i64 a, .int .i64 p, .int .i64 0, .int .i64 0, .bool false, .bool false] 23)).alloc (.cells #[.int .i64 1, .int .i64 p, .int .i64 0] 25)) = wq := ⟨_, rfl⟩
  rw [hwq] at KD_5
  rw [hwq] at KA_6
  rw [hwq] at HB7 ⊢
  clear hwq
  go_cut [10, 11, 12] from 26 to 34 (fun pc qc rc wc => ∃ n1 n2 : Nat, pc = .pointer (some ⟨n1, 0, none⟩) ∧ qc = .pointer (some ⟨n2, 0, none⟩) ∧ rc = .int .i64 0 ∧ Hid (Cs wc n1 #[.int .i64 code, .int .i64 b, .int .i64 q, .int .i64 p, .int .i64 0, .bool true, .bool false]) ∧ Hid (Cs wc n2 #[.int .i64 2, .int .i64 q, .int .i64 r]) ∧ Below wq.heap.size wq wc)
  case first =>
    refine region_inv (fun bf ac wv => ∃ (n1 n2 : Nat) (v27 v28 v29 v30 v31 v26 v32 v33 v34 v10 v11 v12 : Value), ac = { tmps := #[.int .i64 code, .int .i64 a, .int .i64 b, undef, undef, undef, .bool false, .bool true, .pointer (some ⟨u2.heap.size, 0, none⟩), .pointer (some ⟨u2.heap.size + 1, 0, none⟩), v10, v11, v12, undef, undef, undef, undef, undef, undef, .bool true, .tuple #[.agg #[.int .i64 code, .int .i64 a, .int .i64 p, .int .i64 0, .int .i64 0, .bool false, .bool false], .agg #[.int .i64 1, .int .i64 p, .int .i64 0]], .int .i64 code, .int .i64 a, .tuple #[.agg #[.int .i64 code, .int .i64 a, .int .i64 p, .int .i64 0, .int .i64 0, .bool false, .bool false], .agg #[.int .i64 1, .int .i64 p, .int .i64 0]], .agg #[.int .i64 code, .int .i64 a, .int .i64 p, .int .i64 0, .int .i64 0, .bool false, .bool false], .agg #[.int .i64 1, .int .i64 p, .int .i64 0], v26, v27, v28, v29, v30, v31, v32, v33, v34, undef, undef, undef, undef, undef, undef, undef, undef, undef, undef, undef, undef, undef, undef, undef, undef, undef, undef, undef, undef, undef, undef, undef, undef, undef, undef, undef, undef, undef, undef, undef, undef, undef, undef, undef, undef, undef, undef, undef, undef, undef, undef, undef, undef, undef, undef, undef, undef, undef, undef, undef, undef, undef, undef, undef, undef, undef, undef, undef, undef, undef, undef, undef, undef, undef, undef, undef, undef, undef, undef, undef, undef, undef, undef, undef, undef, undef, undef, undef, undef, undef, undef, undef, undef, undef, undef, undef, undef, undef, undef, undef], defers := [] } ∧ Mem wq wv n1 n2 v10 v11 (bf 9) (bf 11) (bf 10) (bf 12) #[.int .i64 code, .int .i64 b, .int .i64 q, .int .i64 p, .int .i64 0, .bool true, .bool false] #[.int .i64 2, .int .i64 q, .int .i64 r] ∧ (bf 0 = true → v27 = .int .i64 code) ∧ (bf 1 = true → v28 = .int .i64 b) ∧ (bf 2 = true → v29 = .agg #[.int .i64 code, .int .i64 b, .int .i64 q, .int .i64 0, .int .i64 0, .bool true, .bool false]) ∧ (bf 3 = true → v30 = .agg #[.int .i64 1, .int .i64 p, .int .i64 0]) ∧ (bf 4 = true → v31 = .tuple #[.agg #[.int .i64 code, .int .i64 b, .int .i64 q, .int .i64 p, .int .i64 0, .bool true, .bool false], .agg #[.int .i64 2, .int .i64 q, .int .i64 r], .int .i64 0]) ∧ (bf 5 = true → v26 = .tuple #[.agg #[.int .i64 code, .int .i64 b, .int .i64 q, .int .i64 p, .int .i64 0, .bool true, .bool false], .agg #[.int .i64 2, .int .i64 q, .int .i64 r], .int .i64 0]) ∧ (bf 6 = true → v32 = .agg #[.int .i64 code, .int .i64 b, .int .i64 q, .int .i64 p, .int .i64 0, .bool true, .bool false]) ∧ (bf 7 = true → v33 = .agg #[.int .i64 2, .int .i64 q, .int .i64 r]) ∧ (bf 8 = true → v34 = .int .i64 0) ∧ (bf 13 = true → v12 = .int .i64 0)) (by kernel_rfl) (by decide +kernel) ?_ ?_ ?_
    · exact ⟨_, _, _, _, _, _, _, _, _, _, _, _, _, _, rfl, Mem.start _ _ _ _ _, (by simp), (by simp), (by simp), (by simp), (by simp), (by simp), (by simp), (by simp), (by simp), (by simp)⟩
    · refine ⟨?_, ?_, ?_, ?_, ?_, ?_, ?_, ?_, ?_, ?_, ?_, ?_, ?_, ?_, trivial⟩
      · intro bf ac wv hfb haf hJ K' hK
        obtain ⟨n1, n2, v27, v28, v29, v30, v31, v26, v32, v33, v34, v10, v11, v12, rfl, hM, g27, g28, g29, g30, g31, g26, g32, g33, g34, g12⟩ := hJ
        replace hK := Lib.hid hK
        replace hM := Lib.hid hM
        replace g27 := Lib.hid g27
        replace g28 := Lib.hid g28
        replace g29 := Lib.hid g29
        replace g30 := Lib.hid g30
        replace g31 := Lib.hid g31
        replace g26 := Lib.hid g26
        replace g32 := Lib.hid g32
        replace g33 := Lib.hid g33
        replace g34 := Lib.hid g34
        replace g12 := Lib.hid g12
        go_simp
        exact hK.out _ _ ⟨n1, n2, .int .i64 code, v28, v29, v30, v31, v26, v32, v33, v34, v10, v11, v12, rfl, hM.out, fun _ => rfl, g28.out, g29.out, g30.out, g31.out, g26.out, g32.out, g33.out, g34.out, g12.out⟩
      · intro bf ac wv hfb haf hJ K' hK
        obtain ⟨n1, n2, v27, v28, v29, v30, v31, v26, v32, v33, v34, v10, v11, v12, rfl, hM, g27, g28, g29, g30, g31, g26, g32, g33, g34, g12⟩ := hJ
        replace hK := Lib.hid hK
        replace hM := Lib.hid hM
        replace g27 := Lib.hid g27
        replace g28 := Lib.hid g28
        replace g29 := Lib.hid g29
        replace g30 := Lib.hid g30
        replace g31 := Lib.hid g31
        replace g26 := Lib.hid g26
        replace g32 := Lib.hid g32
        replace g33 := Lib.hid g33
        replace g34 := Lib.hid g34
        replace g12 := Lib.hid g12
        go_simp
        exact hK.out _ _ ⟨n1, n2, v27, .int .i64 b, v29, v30, v31, v26, v32, v33, v34, v10, v11, v12, rfl, hM.out, g27.out, fun _ => rfl, g29.out, g30.out, g31.out, g26.out, g32.out, g33.out, g34.out, g12.out⟩
      · intro bf ac wv hfb haf hJ K' hK
        obtain ⟨n1, n2, v27, v28, v29, v30, v31, v26, v32, v33, v34, v10, v11, v12, rfl, hM, g27, g28, g29, g30, g31, g26, g32, g33, g34, g12⟩ := hJ
        replace hK := Lib.hid hK
        replace hM := Lib.hid hM
        replace g27 := Lib.hid g27
        replace g28 := Lib.hid g28
        replace g29 := Lib.hid g29
        replace g30 := Lib.hid g30
        replace g31 := Lib.hid g31
        replace g26 := Lib.hid g26
        replace g32 := Lib.hid g32
        replace g33 := Lib.hid g33
        replace g34 := Lib.hid g34
        replace g12 := Lib.hid g12
        simp [Region.binds] at haf
        have hb0 : bf 0 = true := by simp [haf]
        have hb1 : bf 1 = true := by simp [haf]
        obtain rfl := g27.out hb0
        obtain rfl := g28.out hb1
        go_simp
        go_at_call 14
        refine (hub_is code b q _ hq.out).mono ?_
        rintro e w4 ⟨rfl, b4⟩
        exact hK.out _ _ ⟨n1, n2, .int .i64 code, .int .i64 b, .agg #[.int .i64 code, .int .i64 b, .int .i64 q, .int .i64 0, .int .i64 0, .bool true, .bool false], v30, v31, v26, v32, v33, v34, v10, v11, v12, rfl, hM.out.step b4, g27.out, g28.out, fun _ => rfl, g30.out, g31.out, g26.out, g32.out, g33.out, g34.out, g12.out⟩
      · intro bf ac wv hfb haf hJ K' hK
        obtain ⟨n1, n2, v27, v28, v29, v30, v31, v26, v32, v33, v34, v10, v11, v12, rfl, hM, g27, g28, g29, g30, g31, g26, g32, g33, g34, g12⟩ := hJ
        replace hK := Lib.hid hK
        replace hM := Lib.hid hM
        replace g27 := Lib.hid g27
        replace g28 := Lib.hid g28
        replace g29 := Lib.hid g29
        replace g30 := Lib.hid g30
        replace g31 := Lib.hid g31
        replace g26 := Lib.hid g26
        replace g32 := Lib.hid g32
        replace g33 := Lib.hid g33
        replace g34 := Lib.hid g34
        replace g12 := Lib.hid g12
        have hA := KA_6.out.step hM.out.below
        have xA0 := hA.c 0 rfl
        have xA1 := hA.c 1 rfl
        have xA2 := hA.c 2 rfl
        have zA := hA.2.2
        clear hA
        go_simp
        exact hK.out _ _ ⟨n1, n2, v27, v28, v29, .agg #[.int .i64 1, .int .i64 p, .int .i64 0], v31, v26, v32, v33, v34, v10, v11, v12, rfl, hM.out, g27.out, g28.out, g29.out, fun _ => rfl, g31.out, g26.out, g32.out, g33.out, g34.out, g12.out⟩
      · intro bf ac wv hfb haf hJ K' hK
        obtain ⟨n1, n2, v27, v28, v29, v30, v31, v26, v32, v33, v34, v10, v11, v12, rfl, hM, g27, g28, g29, g30, g31, g26, g32, g33, g34, g12⟩ := hJ
        replace hK := Lib.hid hK
        replace hM := Lib.hid hM
        replace g27 := Lib.hid g27
        replace g28 := Lib.hid g28
        replace g29 := Lib.hid g29
        replace g30 := Lib.hid g30
        replace g31 := Lib.hid g31
        replace g26 := Lib.hid g26
        replace g32 := Lib.hid g32
        replace g33 := Lib.hid g33
        replace g34 := Lib.hid g34
        replace g12 := Lib.hid g12
        simp [Region.binds] at haf
        have hb2 : bf 2 = true := by simp [haf]
        have hb3 : bf 3 = true := by simp [haf]
        obtain rfl := g29.out hb2
        obtain rfl := g30.out hb3
        go_simp
        go_at_call 12
        refine (recv_is code b q 0 0 true false 1 p 0 0 _ _ _ hw1.out).mono ?_
        rintro e w5 ⟨rfl, b5⟩
        exact hK.out _ _ ⟨n1, n2, v27, v28, .agg #[.int .i64 code, .int .i64 b, .int .i64 q, .int .i64 0, .int .i64 0, .bool true, .bool false], .agg #[.int .i64 1, .int .i64 p, .int .i64 0], .tuple #[.agg #[.int .i64 code, .int .i64 b, .int .i64 q, .int .i64 p, .int .i64 0, .bool true, .bool false], .agg #[.int .i64 2, .int .i64 q, .int .i64 r], .int .i64 0], v26, v32, v33, v34, v10, v11, v12, rfl, hM.out.step b5, g27.out, g28.out, g29.out, g30.out, fun _ => rfl, g26.out, g32.out, g33.out, g34.out, g12.out⟩
      · intro bf ac wv hfb haf hJ K' hK
        obtain ⟨n1, n2, v27, v28, v29, v30, v31, v26, v32, v33, v34, v10, v11, v12, rfl, hM, g27, g28, g29, g30, g31, g26, g32, g33, g34, g12⟩ := hJ
        replace hK := Lib.hid hK
        replace hM := Lib.hid hM
        replace g27 := Lib.hid g27
        replace g28 := Lib.hid g28
        replace g29 := Lib.hid g29
        replace g30 := Lib.hid g30
        replace g31 := Lib.hid g31
        replace g26 := Lib.hid g26
        replace g32 := Lib.hid g32
        replace g33 := Lib.hid g33
        replace g34 := Lib.hid g34
        replace g12 := Lib.hid g12
        simp [Region.binds] at haf
        have hb4 : bf 4 = true := by simp [haf]
        obtain rfl := g31.out hb4
        go_simp
        exact hK.out _ _ ⟨n1, n2, v27, v28, v29, v30, .tuple #[.agg #[.int .i64 code, .int .i64 b, .int .i64 q, .int .i64 p, .int .i64 0, .bool true, .bool false], .agg #[.int .i64 2, .int .i64 q, .int .i64 r], .int .i64 0], .tuple #[.agg #[.int .i64 code, .int .i64 b, .int .i64 q, .int .i64 p, .int .i64 0, .bool true, .bool false], .agg #[.int .i64 2, .int .i64 q, .int .i64 r], .int .i64 0], v32, v33, v34, v10, v11, v12, rfl, hM.out, g27.out, g28.out, g29.out, g30.out, g31.out, fun _ => rfl, g32.out, g33.out, g34.out, g12.out⟩
      · intro bf ac wv hfb haf hJ K' hK
        obtain ⟨n1, n2, v27, v28, v29, v30, v31, v26, v32, v33, v34, v10, v11, v12, rfl, hM, g27, g28, g29, g30, g31, g26, g32, g33, g34, g12⟩ := hJ
        replace hK := Lib.hid hK
        replace hM := Lib.hid hM
        replace g27 := Lib.hid g27
        replace g28 := Lib.hid g28
        replace g29 := Lib.hid g29
        replace g30 := Lib.hid g30
        replace g31 := Lib.hid g31
        replace g26 := Lib.hid g26
        replace g32 := Lib.hid g32
        replace g33 := Lib.hid g33
        replace g34 := Lib.hid g34
        replace g12 := Lib.hid g12
        simp [Region.binds] at haf
        have hb5 : bf 5 = true := by simp [haf]
        obtain rfl := g26.out hb5
        go_simp
        exact hK.out _ _ ⟨n1, n2, v27, v28, v29, v30, v31, .tuple #[.agg #[.int .i64 code, .int .i64 b, .int .i64 q, .int .i64 p, .int .i64 0, .bool true, .bool false], .agg #[.int .i64 2, .int .i64 q, .int .i64 r], .int .i64 0], .agg #[.int .i64 code, .int .i64 b, .int .i64 q, .int .i64 p, .int .i64 0, .bool true, .bool false], v33, v34, v10, v11, v12, rfl, hM.out, g27.out, g28.out, g29.out, g30.out, g31.out, g26.out, fun _ => rfl, g33.out, g34.out, g12.out⟩
      · intro bf ac wv hfb haf hJ K' hK
        obtain ⟨n1, n2, v27, v28, v29, v30, v31, v26, v32, v33, v34, v10, v11, v12, rfl, hM, g27, g28, g29, g30, g31, g26, g32, g33, g34, g12⟩ := hJ
        replace hK := Lib.hid hK
        replace hM := Lib.hid hM
        replace g27 := Lib.hid g27
        replace g28 := Lib.hid g28
        replace g29 := Lib.hid g29
        replace g30 := Lib.hid g30
        replace g31 := Lib.hid g31
        replace g26 := Lib.hid g26
        replace g32 := Lib.hid g32
        replace g33 := Lib.hid g33
        replace g34 := Lib.hid g34
        replace g12 := Lib.hid g12
        simp [Region.binds] at haf
        have hb5 : bf 5 = true := by simp [haf]
        obtain rfl := g26.out hb5
        go_simp
        exact hK.out _ _ ⟨n1, n2, v27, v28, v29, v30, v31, .tuple #[.agg #[.int .i64 code, .int .i64 b, .int .i64 q, .int .i64 p, .int .i64 0, .bool true, .bool false], .agg #[.int .i64 2, .int .i64 q, .int .i64 r], .int .i64 0], v32, .agg #[.int .i64 2, .int .i64 q, .int .i64 r], v34, v10, v11, v12, rfl, hM.out, g27.out, g28.out, g29.out, g30.out, g31.out, g26.out, g32.out, fun _ => rfl, g34.out, g12.out⟩
      · intro bf ac wv hfb haf hJ K' hK
        obtain ⟨n1, n2, v27, v28, v29, v30, v31, v26, v32, v33, v34, v10, v11, v12, rfl, hM, g27, g28, g29, g30, g31, g26, g32, g33, g34, g12⟩ := hJ
        replace hK := Lib.hid hK
        replace hM := Lib.hid hM
        replace g27 := Lib.hid g27
        replace g28 := Lib.hid g28
        replace g29 := Lib.hid g29
        replace g30 := Lib.hid g30
        replace g31 := Lib.hid g31
        replace g26 := Lib.hid g26
        replace g32 := Lib.hid g32
        replace g33 := Lib.hid g33
        replace g34 := Lib.hid g34
        replace g12 := Lib.hid g12
        simp [Region.binds] at haf
        have hb5 : bf 5 = true := by simp [haf]
        obtain rfl := g26.out hb5
        go_simp
        exact hK.out _ _ ⟨n1, n2, v27, v28, v29, v30, v31, .tuple #[.agg #[.int .i64 code, .int .i64 b, .int .i64 q, .int .i64 p, .int .i64 0, .bool true, .bool false], .agg #[.int .i64 2, .int .i64 q, .int .i64 r], .int .i64 0], v32, v33, .int .i64 0, v10, v11, v12, rfl, hM.out, g27.out, g28.out, g29.out, g30.out, g31.out, g26.out, g32.out, g33.out, fun _ => rfl, g12.out⟩
      · intro bf ac wv hfb haf hJ K' hK
        obtain ⟨n1, n2, v27, v28, v29, v30, v31, v26, v32, v33, v34, v10, v11, v12, rfl, hM, g27, g28, g29, g30, g31, g26, g32, g33, g34, g12⟩ := hJ
        replace hK := Lib.hid hK
        replace hM := Lib.hid hM
        replace g27 := Lib.hid g27
        replace g28 := Lib.hid g28
        replace g29 := Lib.hid g29
        replace g30 := Lib.hid g30
        replace g31 := Lib.hid g31
        replace g26 := Lib.hid g26
        replace g32 := Lib.hid g32
        replace g33 := Lib.hid g33
        replace g34 := Lib.hid g34
        replace g12 := Lib.hid g12
        obtain ⟨m2, hM2⟩ := hM.out.alloc1 hfb
        have hM2 := Lib.hid hM2
        clear hM
        go_simp
        exact hK.out _ _ ⟨_, m2, v27, v28, v29, v30, v31, v26, v32, v33, v34, _, v11, v12, rfl, hM2.out, g27.out, g28.out, g29.out, g30.out, g31.out, g26.out, g32.out, g33.out, g34.out, g12.out⟩
      · intro bf ac wv hfb haf hJ K' hK
        obtain ⟨n1, n2, v27, v28, v29, v30, v31, v26, v32, v33, v34, v10, v11, v12, rfl, hM, g27, g28, g29, g30, g31, g26, g32, g33, g34, g12⟩ := hJ
        replace hK := Lib.hid hK
        replace hM := Lib.hid hM
        replace g27 := Lib.hid g27
        replace g28 := Lib.hid g28
        replace g29 := Lib.hid g29
        replace g30 := Lib.hid g30
        replace g31 := Lib.hid g31
        replace g26 := Lib.hid g26
        replace g32 := Lib.hid g32
        replace g33 := Lib.hid g33
        replace g34 := Lib.hid g34
        replace g12 := Lib.hid g12
        obtain ⟨m1, hM2⟩ := hM.out.alloc2 hfb
        have hM2 := Lib.hid hM2
        clear hM
        go_simp
        exact hK.out _ _ ⟨m1, _, v27, v28, v29, v30, v31, v26, v32, v33, v34, v10, _, v12, rfl, hM2.out, g27.out, g28.out, g29.out, g30.out, g31.out, g26.out, g32.out, g33.out, g34.out, g12.out⟩
      · intro bf ac wv hfb haf hJ K' hK
        obtain ⟨n1, n2, v27, v28, v29, v30, v31, v26, v32, v33, v34, v10, v11, v12, rfl, hM, g27, g28, g29, g30, g31, g26, g32, g33, g34, g12⟩ := hJ
        replace hK := Lib.hid hK
        replace hM := Lib.hid hM
        replace g27 := Lib.hid g27
        replace g28 := Lib.hid g28
        replace g29 := Lib.hid g29
        replace g30 := Lib.hid g30
        replace g31 := Lib.hid g31
        replace g26 := Lib.hid g26
        replace g32 := Lib.hid g32
        replace g33 := Lib.hid g33
        replace g34 := Lib.hid g34
        replace g12 := Lib.hid g12
        simp [Region.binds] at haf
        have hb6 : bf 6 = true := by simp [haf]
        have hb9 : bf 9 = true := by simp [haf]
        obtain rfl := g32.out hb6
        obtain ⟨rfl, hZ⟩ := hM.out.zero1 hb9 hfb
        have hZ := Lib.hid hZ
        unfold ptr at hM hK ⊢
        have xZ0 := hZ.out.c 0 rfl
        have yZ0 := hZ.out.f 0 (by simp)
        have xZ1 := hZ.out.c 1 rfl
        have yZ1 := hZ.out.f 1 (by simp)
        have xZ2 := hZ.out.c 2 rfl
        have yZ2 := hZ.out.f 2 (by simp)
        have xZ3 := hZ.out.c 3 rfl
        have yZ3 := hZ.out.f 3 (by simp)
        have xZ4 := hZ.out.c 4 rfl
        have yZ4 := hZ.out.f 4 (by simp)
        have xZ5 := hZ.out.c 5 rfl
        have yZ5 := hZ.out.f 5 (by simp)
        have xZ6 := hZ.out.c 6 rfl
        have yZ6 := hZ.out.f 6 (by simp)
        have zZ := hZ.out.2.2
        go_simp
        have hM3 := hM.out; rw [hb9] at hM3
        have hM4 := hM3.store1 (Turned.all7 hZ.out)
        exact hK.out _ _ ⟨n1, n2, v27, v28, v29, v30, v31, v26, .agg #[.int .i64 code, .int .i64 b, .int .i64 q, .int .i64 p, .int .i64 0, .bool true, .bool false], v33, v34, .pointer (some ⟨n1, 0, none⟩), v11, v12, rfl, (by rw [show up bf 11 9 = true from hb9]; exact hM4), g27.out, g28.out, g29.out, g30.out, g31.out, g26.out, g32.out, g33.out, g34.out, g12.out⟩
      · intro bf ac wv hfb haf hJ K' hK
        obtain ⟨n1, n2, v27, v28, v29, v30, v31, v26, v32, v33, v34, v10, v11, v12, rfl, hM, g27, g28, g29, g30, g31, g26, g32, g33, g34, g12⟩ := hJ
        replace hK := Lib.hid hK
        replace hM := Lib.hid hM
        replace g27 := Lib.hid g27
        replace g28 := Lib.hid g28
        replace g29 := Lib.hid g29
        replace g30 := Lib.hid g30
        replace g31 := Lib.hid g31
        replace g26 := Lib.hid g26
        replace g32 := Lib.hid g32
        replace g33 := Lib.hid g33
        replace g34 := Lib.hid g34
        replace g12 := Lib.hid g12
        simp [Region.binds] at haf
        have hb7 : bf 7 = true := by simp [haf]
        have hb10 : bf 10 = true := by simp [haf]
        obtain rfl := g33.out hb7
        obtain ⟨rfl, hZ⟩ := hM.out.zero2 hb10 hfb
        have hZ := Lib.hid hZ
        unfold ptr at hM hK ⊢
        have xZ0 := hZ.out.c 0 rfl
        have yZ0 := hZ.out.f 0 (by simp)
        have xZ1 := hZ.out.c 1 rfl
        have yZ1 := hZ.out.f 1 (by simp)
        have xZ2 := hZ.out.c 2 rfl
        have yZ2 := hZ.out.f 2 (by simp)
        have zZ := hZ.out.2.2
        go_simp
        have hM3 := hM.out; rw [hb10] at hM3
        have hM4 := hM3.store2 (Turned.all3 hZ.out)
        exact hK.out _ _ ⟨n1, n2, v27, v28, v29, v30, v31, v26, v32, .agg #[.int .i64 2, .int .i64 q, .int .i64 r], v34, v10, .pointer (some ⟨n2, 0, none⟩), v12, rfl, (by rw [show up bf 12 10 = true from hb10]; exact hM4), g27.out, g28.out, g29.out, g30.out, g31.out, g26.out, g32.out, g33.out, g34.out, g12.out⟩
      · intro bf ac wv hfb haf hJ K' hK
        obtain ⟨n1, n2, v27, v28, v29, v30, v31, v26, v32, v33, v34, v10, v11, v12, rfl, hM, g27, g28, g29, g30, g31, g26, g32, g33, g34, g12⟩ := hJ
        replace hK := Lib.hid hK
        replace hM := Lib.hid hM
        replace g27 := Lib.hid g27
        replace g28 := Lib.hid g28
        replace g29 := Lib.hid g29
        replace g30 := Lib.hid g30
        replace g31 := Lib.hid g31
        replace g26 := Lib.hid g26
        replace g32 := Lib.hid g32
        replace g33 := Lib.hid g33
        replace g34 := Lib.hid g34
        replace g12 := Lib.hid g12
        simp [Region.binds] at haf
        have hb8 : bf 8 = true := by simp [haf]
        obtain rfl := g34.out hb8
        go_simp
        exact hK.out _ _ ⟨n1, n2, v27, v28, v29, v30, v31, v26, v32, v33, .int .i64 0, v10, v11, .int .i64 0, rfl, hM.out, g27.out, g28.out, g29.out, g30.out, g31.out, g26.out, g32.out, g33.out, g34.out, fun _ => rfl⟩
    · intro bf ac wv hall hJ
      obtain ⟨n1, n2, v27, v28, v29, v30, v31, v26, v32, v33, v34, v10, v11, v12, rfl, hM, g27, g28, g29, g30, g31, g26, g32, g33, g34, g12⟩ := hJ
      obtain rfl := g12 (hall 13 (by decide))
      rw [hall 9 (by decide), hall 10 (by decide), hall 11 (by decide), hall 12 (by decide)] at hM
      obtain ⟨rfl, h1⟩ := hM.c1 rfl
      obtain ⟨rfl, h2⟩ := hM.c2 rfl
      have hB := hM.below
      clear g27 g28 g29 g30 g31 g26 g32 g33 g34 g12 hM hall
      unfold ptr
      go_wp2
      go_meet
      exact ⟨n1, n2, rfl, rfl, rfl, Lib.hid h1, Lib.hid h2, hB⟩
  case rest =>
    obtain ⟨n1, n2, rfl, rfl, rfl, hJ, hH, hB⟩ := hcut
    have KD_8 := Lib.hid (KD_5.out.step hB)
    clear KD_5
    have KA_9 := Lib.hid (KA_6.out.step hB)
    clear KA_6
    have HB10 := Lib.hid (keep2 hB HB7.out)
    clear HB7 hB
    have xA0 : wc.cell? ⟨u2.heap.size + 1, 0, none⟩ = some (.int .i64 1) := KA_9.out.c 0 rfl
    have xA1 : wc.cell? ⟨u2.heap.size + 1, 1, none⟩ = some (.int .i64 p) := KA_9.out.c 1 rfl
    have xA2 : wc.cell? ⟨u2.heap.size + 1, 2, none⟩ = some (.int .i64 0) := KA_9.out.c 2 rfl
    have zA : u2.heap.size + 1 < wc.heap.size := KA_9.out.2.2
    have z2A : u2.heap.size + 1 < wc.heap.size + 1 := by omega
    go_wp2_with fail
    refine (racc_at p true _ ha.out).mono ?_
    rintro e _ ⟨rfl, rfl⟩
    clear xA0 xA1 xA2 zA z2A
    have xD0 : wc.cell? ⟨u2.heap.size, 0, none⟩ = some (.int .i64 code) := KD_8.out.c 0 rfl
    have xD1 : wc.cell? ⟨u2.heap.size, 1, none⟩ = some (.int .i64 a) := KD_8.out.c 1 rfl
    have xD2 : wc.cell? ⟨u2.heap.size, 2, none⟩ = some (.int .i64 p) := KD_8.out.c 2 rfl
    have xD3 : wc.cell? ⟨u2.heap.size, 3, none⟩ = some (.int .i64 0) := KD_8.out.c 3 rfl
    have xD4 : wc.cell? ⟨u2.heap.size, 4, none⟩ = some (.int .i64 0) := KD_8.out.c 4 rfl
    have xD5 : wc.cell? ⟨u2.heap.size, 5, none⟩ = some (.bool false) := KD_8.out.c 5 rfl
    have xD6 : wc.cell? ⟨u2.heap.size, 6, none⟩ = some (.bool false) := KD_8.out.c 6 rfl
    have zD : u2.heap.size < wc.heap.size := KD_8.out.2.2
    have z2D : u2.heap.size < wc.heap.size + 1 := by omega
    have xB0 : wc.cell? ⟨n1, 0, none⟩ = some (.int .i64 code) := hJ.out.c 0 rfl
    have xB1 : wc.cell? ⟨n1, 1, none⟩ = some (.int .i64 b) := hJ.out.c 1 rfl
    have xB2 : wc.cell? ⟨n1, 2, none⟩ = some (.int .i64 q) := hJ.out.c 2 rfl
    have xB3 : wc.cell? ⟨n1, 3, none⟩ = some (.int .i64 p) := hJ.out.c 3 rfl
    have xB4 : wc.cell? ⟨n1, 4, none⟩ = some (.int .i64 0) := hJ.out.c 4 rfl
    have xB5 : wc.cell? ⟨n1, 5, none⟩ = some (.bool true) := hJ.out.c 5 rfl
    have xB6 : wc.cell? ⟨n1, 6, none⟩ = some (.bool false) := hJ.out.c 6 rfl
    have zB : n1 < wc.heap.size := hJ.out.2.2
    have z2B : n1 < wc.heap.size + 1 := by omega
    have xC0 : wc.cell? ⟨n2, 0, none⟩ = some (.int .i64 2) := hH.out.c 0 rfl
    have xC1 : wc.cell? ⟨n2, 1, none⟩ = some (.int .i64 q) := hH.out.c 1 rfl
    have xC2 : wc.cell? ⟨n2, 2, none⟩ = some (.int .i64 r) := hH.out.c 2 rfl
    have zC : n2 < wc.heap.size := hH.out.2.2
    have z2C : n2 < wc.heap.size + 1 := by omega
    go_wp2_with fail
    refine (recv_is code a p 0 0 false false 2 q r 0 _ _ _ hw2.out).mono ?_
    rintro e u3 ⟨rfl, b3⟩
    clear xD0 xD1 xD2 xD3 xD4 xD5 xD6 zD z2D xB0 xB1 xB2 xB3 xB4 xB5 xB6 zB z2B xC0 xC1 xC2 zC z2C
    have KD_11 := Lib.hid (KD_8.out.step b3)
    clear KD_8
    have KA_12 := Lib.hid (KA_9.out.step b3)
    clear KA_9
    have KB_13 := Lib.hid (hJ.out.step b3)
    clear hJ
    have KC_14 := Lib.hid (hH.out.step b3)
    clear hH
    have HB15 := Lib.hid (keep2 b3 HB10.out)
    clear HB10 b3
    have KD_16 := Lib.hid (KD_11.out.alloc (.cells #[.int .i64 code, .int .i64 a, .int .i64 p, .int .i64 q, .int .i64 K, .bool false, .bool true] 23))
    clear KD_11
    have KA_17 := Lib.hid (KA_12.out.alloc (.cells #[.int .i64 code, .int .i64 a, .int .i64 p, .int .i64 q, .int .i64 K, .bool false, .bool true] 23))
    clear KA_12
    have KB_18 := Lib.hid (KB_13.out.alloc (.cells #[.int .i64 code, .int .i64 a, .int .i64 p, .int .i64 q, .int .i64 K, .bool false, .bool true] 23))
    clear KB_13
    have KC_19 := Lib.hid (KC_14.out.alloc (.cells #[.int .i64 code, .int .i64 a, .int .i64 p, .int .i64 q, .int .i64 K, .bool false, .bool true] 23))
    clear KC_14
    have KE_20 := Lib.hid (Cs.new u3 (u3.heap.size) #[.int .i64 code, .int .i64 a, .int .i64 p, .int .i64 q, .int .i64 K, .bool false, .bool true] 23 (by simp))
    have HB21 : Hid (Below w.heap.size w (u3.alloc (.cells #[.int .i64 code, .int .i64 a, .int .i64 p, .int .i64 q, .int .i64 K, .bool false, .bool true] 23))) := HB15.out.alloc HB15.out.size _
    clear HB15
    have KD_22 := Lib.hid (KD_16.out.alloc (.cells #[.int .i64 3, .int .i64 0, .int .i64 t] 25))
    clear KD_16
    have KA_23 := Lib.hid (KA_17.out.alloc (.cells #[.int .i64 3, .int .i64 0, .int .i64 t] 25))
    clear KA_17
    have KB_24 := Lib.hid (KB_18.out.alloc (.cells #[.int .i64 3, .int .i64 0, .int .i64 t] 25))
    clear KB_18
    have KC_25 := Lib.hid (KC_19.out.alloc (.cells #[.int .i64 3, .int .i64 0, .int .i64 t] 25))
    clear KC_19
    have KE_26 := Lib.hid (KE_20.out.alloc (.cells #[.int .i64 3, .int .i64 0, .int .i64 t] 25))
    clear KE_20
    have KF_27 := Lib.hid (Cs.new (u3.alloc (.cells #[.int .i64 code, .int .i64 a, .int .i64 p, .int .i64 q, .int .i64 K, .bool false, .bool true] 23)) (u3.heap.size + 1) #[.int .i64 3, .int .i64 0, .int .i64 t] 25 (by simp))
    have HB28 : Hid (Below w.heap.size w ((u3.alloc (.cells #[.int .i64 code, .int .i64 a, .int .i64 p, .int .i64 q, .int .i64 K, .bool false, .bool true] 23)).alloc (.cells #[.int .i64 3, .int .i64 0, .int .i64 t] 25))) := HB21.out.alloc HB21.out.size _
    clear HB21
    have xC0 : ((u3.alloc (.cells #[.int .i64 code, .int .i64 a, .int .i64 p, .int .i64 q, .int .i64 K, .bool false, .bool true] 23)).alloc (.cells #[.int .i64 3, .int .i64 0, .int .i64 t] 25)).cell? ⟨n2, 0, none⟩ = some (.int .i64 2) := KC_25.out.c 0 rfl
    have xC1 : ((u3.alloc (.cells #[.int .i64 code, .int .i64 a, .int .i64 p, .int .i64 q, .int .i64 K, .bool false, .bool true] 23)).alloc (.cells #[.int .i64 3, .int .i64 0, .int .i64 t] 25)).cell? ⟨n2, 1, none⟩ = some (.int .i64 q) := KC_25.out.c 1 rfl
    have xC2 : ((u3.alloc (.cells #[.int .i64 code, .int .i64 a, .int .i64 p, .int .i64 q, .int .i64 K, .bool false, .bool true] 23)).alloc (.cells #[.int .i64 3, .int .i64 0, .int .i64 t] 25)).cell? ⟨n2, 2, none⟩ = some (.int .i64 r) := KC_25.out.c 2 rfl
    have zC : n2 < ((u3.alloc (.cells #[.int .i64 code, .int .i64 a, .int .i64 p, .int .i64 q, .int .i64 K, .bool false, .bool true] 23)).alloc (.cells #[.int .i64 3, .int .i64 0, .int .i64 t] 25)).heap.size := KC_25.out.2.2
    have z2C : n2 < ((u3.alloc (.cells #[.int .i64 code, .int .i64 a, .int .i64 p, .int .i64 q, .int .i64 K, .bool false, .bool true] 23)).alloc (.cells #[.int .i64 3, .int .i64 0, .int .i64 t] 25)).heap.size + 1 := by omega
    go_wp2_with fail
    refine (racc_at q true _ hb.out).mono ?_
    rintro e _ ⟨rfl, rfl⟩
    clear xC0 xC1 xC2 zC z2C
    have xB0 : ((u3.alloc (.cells #[.int .i64 code, .int .i64 a, .int .i64 p, .int .i64 q, .int .i64 K, .bool false, .bool true] 23)).alloc (.cells #[.int .i64 3, .int .i64 0, .int .i64 t] 25)).cell? ⟨n1, 0, none⟩ = some (.int .i64 code) := KB_24.out.c 0 rfl
    have xB1 : ((u3.alloc (.cells #[.int .i64 code, .int .i64 a, .int .i64 p, .int .i64 q, .int .i64 K, .bool false, .bool true] 23)).alloc (.cells #[.int .i64 3, .int .i64 0, .int .i64 t] 25)).cell? ⟨n1, 1, none⟩ = some (.int .i64 b) := KB_24.out.c 1 rfl
    have xB2 : ((u3.alloc (.cells #[.int .i64 code, .int .i64 a, .int .i64 p, .int .i64 q, .int .i64 K, .bool false, .bool true] 23)).alloc (.cells #[.int .i64 3, .int .i64 0, .int .i64 t] 25)).cell? ⟨n1, 2, none⟩ = some (.int .i64 q) := KB_24.out.c 2 rfl
    have xB3 : ((u3.alloc (.cells #[.int .i64 code, .int .i64 a, .int .i64 p, .int .i64 q, .int .i64 K, .bool false, .bool true] 23)).alloc (.cells #[.int .i64 3, .int .i64 0, .int .i64 t] 25)).cell? ⟨n1, 3, none⟩ = some (.int .i64 p) := KB_24.out.c 3 rfl
    have xB4 : ((u3.alloc (.cells #[.int .i64 code, .int .i64 a, .int .i64 p, .int .i64 q, .int .i64 K, .bool false, .bool true] 23)).alloc (.cells #[.int .i64 3, .int .i64 0, .int .i64 t] 25)).cell? ⟨n1, 4, none⟩ = some (.int .i64 0) := KB_24.out.c 4 rfl
    have xB5 : ((u3.alloc (.cells #[.int .i64 code, .int .i64 a, .int .i64 p, .int .i64 q, .int .i64 K, .bool false, .bool true] 23)).alloc (.cells #[.int .i64 3, .int .i64 0, .int .i64 t] 25)).cell? ⟨n1, 5, none⟩ = some (.bool true) := KB_24.out.c 5 rfl
    have xB6 : ((u3.alloc (.cells #[.int .i64 code, .int .i64 a, .int .i64 p, .int .i64 q, .int .i64 K, .bool false, .bool true] 23)).alloc (.cells #[.int .i64 3, .int .i64 0, .int .i64 t] 25)).cell? ⟨n1, 6, none⟩ = some (.bool false) := KB_24.out.c 6 rfl
    have zB : n1 < ((u3.alloc (.cells #[.int .i64 code, .int .i64 a, .int .i64 p, .int .i64 q, .int .i64 K, .bool false, .bool true] 23)).alloc (.cells #[.int .i64 3, .int .i64 0, .int .i64 t] 25)).heap.size := KB_24.out.2.2
    have z2B : n1 < ((u3.alloc (.cells #[.int .i64 code, .int .i64 a, .int .i64 p, .int .i64 q, .int .i64 K, .bool false, .bool true] 23)).alloc (.cells #[.int .i64 3, .int .i64 0, .int .i64 t] 25)).heap.size + 1 := by omega
    have xF0 : ((u3.alloc (.cells #[.int .i64 code, .int .i64 a, .int .i64 p, .int .i64 q, .int .i64 K, .bool false, .bool true] 23)).alloc (.cells #[.int .i64 3, .int .i64 0, .int .i64 t] 25)).cell? ⟨u3.heap.size + 1, 0, none⟩ = some (.int .i64 3) := KF_27.out.c 0 rfl
    have xF1 : ((u3.alloc (.cells #[.int .i64 code, .int .i64 a, .int .i64 p, .int .i64 q, .int .i64 K, .bool false, .bool true] 23)).alloc (.cells #[.int .i64 3, .int .i64 0, .int .i64 t] 25)).cell? ⟨u3.heap.size + 1, 1, none⟩ = some (.int .i64 0) := KF_27.out.c 1 rfl
    have xF2 : ((u3.alloc (.cells #[.int .i64 code, .int .i64 a, .int .i64 p, .int .i64 q, .int .i64 K, .bool false, .bool true] 23)).alloc (.cells #[.int .i64 3, .int .i64 0, .int .i64 t] 25)).cell? ⟨u3.heap.size + 1, 2, none⟩ = some (.int .i64 t) := KF_27.out.c 2 rfl
    have zF : u3.heap.size + 1 < ((u3.alloc (.cells #[.int .i64 code, .int .i64 a, .int .i64 p, .int .i64 q, .int .i64 K, .bool false, .bool true] 23)).alloc (.cells #[.int .i64 3, .int .i64 0, .int .i64 t] 25)).heap.size := KF_27.out.2.2
    have z2F : u3.heap.size + 1 < ((u3.alloc (.cells #[.int .i64 code, .int .i64 a, .int .i64 p, .int .i64 q, .int .i64 K, .bool false, .bool true] 23)).alloc (.cells #[.int .i64 3, .int .i64 0, .int .i64 t] 25)).heap.size + 1 := by omega
    go_wp2_with fail
    refine (recv_is code b q p 0 true false 3 0 t 0 _ _ _ hw3.out).mono ?_
    rintro e u4 ⟨rfl, b4⟩
    clear xB0 xB1 xB2 xB3 xB4 xB5 xB6 zB z2B xF0 xF1 xF2 zF z2F
    have KD_29 := Lib.hid (KD_22.out.step b4)
    clear KD_22
    have KA_30 := Lib.hid (KA_23.out.step b4)
    clear KA_23
    have KB_31 := Lib.hid (KB_24.out.step b4)
    clear KB_24
    have KC_32 := Lib.hid (KC_25.out.step b4)
    clear KC_25
    have KE_33 := Lib.hid (KE_26.out.step b4)
    clear KE_26
    have KF_34 := Lib.hid (KF_27.out.step b4)
    clear KF_27
    have HB35 := Lib.hid (keep2 b4 HB28.out)
    clear HB28 b4
    have KD_36 := Lib.hid (KD_29.out.alloc (.cells #[.int .i64 code, .int .i64 b, .int .i64 q, .int .i64 p, .int .i64 K, .bool true, .bool true] 23))
    clear KD_29
    have KA_37 := Lib.hid (KA_30.out.alloc (.cells #[.int .i64 code, .int .i64 b, .int .i64 q, .int .i64 p, .int .i64 K, .bool true, .bool true] 23))
    clear KA_30
    have KB_38 := Lib.hid (KB_31.out.alloc (.cells #[.int .i64 code, .int .i64 b, .int .i64 q, .int .i64 p, .int .i64 K, .bool true, .bool true] 23))
    clear KB_31
    have KC_39 := Lib.hid (KC_32.out.alloc (.cells #[.int .i64 code, .int .i64 b, .int .i64 q, .int .i64 p, .int .i64 K, .bool true, .bool true] 23))
    clear KC_32
    have KE_40 := Lib.hid (KE_33.out.alloc (.cells #[.int .i64 code, .int .i64 b, .int .i64 q, .int .i64 p, .int .i64 K, .bool true, .bool true] 23))
    clear KE_33
    have KF_41 := Lib.hid (KF_34.out.alloc (.cells #[.int .i64 code, .int .i64 b, .int .i64 q, .int .i64 p, .int .i64 K, .bool true, .bool true] 23))
    clear KF_34
    have KG_42 := Lib.hid (Cs.new u4 (u4.heap.size) #[.int .i64 code, .int .i64 b, .int .i64 q, .int .i64 p, .int .i64 K, .bool true, .bool true] 23 (by simp))
    have HB43 : Hid (Below w.heap.size w (u4.alloc (.cells #[.int .i64 code, .int .i64 b, .int .i64 q, .int .i64 p, .int .i64 K, .bool true, .bool true] 23))) := HB35.out.alloc HB35.out.size _
    clear HB35
    have KD_44 := Lib.hid (KD_36.out.alloc (.cells #[.int .i64 0, .int .i64 0, .int .i64 0] 25))
    clear KD_36
    have KA_45 := Lib.hid (KA_37.out.alloc (.cells #[.int .i64 0, .int .i64 0, .int .i64 0] 25))
    clear KA_37
    have KB_46 := Lib.hid (KB_38.out.alloc (.cells #[.int .i64 0, .int .i64 0, .int .i64 0] 25))
    clear KB_38
    have KC_47 := Lib.hid (KC_39.out.alloc (.cells #[.int .i64 0, .int .i64 0, .int .i64 0] 25))
    clear KC_39
    have KE_48 := Lib.hid (KE_40.out.alloc (.cells #[.int .i64 0, .int .i64 0, .int .i64 0] 25))
    clear KE_40
    have KF_49 := Lib.hid (KF_41.out.alloc (.cells #[.int .i64 0, .int .i64 0, .int .i64 0] 25))
    clear KF_41
    have KG_50 := Lib.hid (KG_42.out.alloc (.cells #[.int .i64 0, .int .i64 0, .int .i64 0] 25))
    clear KG_42
    have KI_51 := Lib.hid (Cs.new (u4.alloc (.cells #[.int .i64 code, .int .i64 b, .int .i64 q, .int .i64 p, .int .i64 K, .bool true, .bool true] 23)) (u4.heap.size + 1) #[.int .i64 0, .int .i64 0, .int .i64 0] 25 (by simp))
    have HB52 : Hid (Below w.heap.size w ((u4.alloc (.cells #[.int .i64 code, .int .i64 b, .int .i64 q, .int .i64 p, .int .i64 K, .bool true, .bool true] 23)).alloc (.cells #[.int .i64 0, .int .i64 0, .int .i64 0] 25))) := HB43.out.alloc HB43.out.size _
    clear HB43
    have xA0 : ((u4.alloc (.cells #[.int .i64 code, .int .i64 b, .int .i64 q, .int .i64 p, .int .i64 K, .bool true, .bool true] 23)).alloc (.cells #[.int .i64 0, .int .i64 0, .int .i64 0] 25)).cell? ⟨u2.heap.size + 1, 0, none⟩ = some (.int .i64 1) := KA_45.out.c 0 rfl
    have xA1 : ((u4.alloc (.cells #[.int .i64 code, .int .i64 b, .int .i64 q, .int .i64 p, .int .i64 K, .bool true, .bool true] 23)).alloc (.cells #[.int .i64 0, .int .i64 0, .int .i64 0] 25)).cell? ⟨u2.heap.size + 1, 1, none⟩ = some (.int .i64 p) := KA_45.out.c 1 rfl
    have xA2 : ((u4.alloc (.cells #[.int .i64 code, .int .i64 b, .int .i64 q, .int .i64 p, .int .i64 K, .bool true, .bool true] 23)).alloc (.cells #[.int .i64 0, .int .i64 0, .int .i64 0] 25)).cell? ⟨u2.heap.size + 1, 2, none⟩ = some (.int .i64 0) := KA_45.out.c 2 rfl
    have zA : u2.heap.size + 1 < ((u4.alloc (.cells #[.int .i64 code, .int .i64 b, .int .i64 q, .int .i64 p, .int .i64 K, .bool true, .bool true] 23)).alloc (.cells #[.int .i64 0, .int .i64 0, .int .i64 0] 25)).heap.size := KA_45.out.2.2
    have z2A : u2.heap.size + 1 < ((u4.alloc (.cells #[.int .i64 code, .int .i64 b, .int .i64 q, .int .i64 p, .int .i64 K, .bool true, .bool true] 23)).alloc (.cells #[.int .i64 0, .int .i64 0, .int .i64 0] 25)).heap.size + 1 := by omega
    have xC0 : ((u4.alloc (.cells #[.int .i64 code, .int .i64 b, .int .i64 q, .int .i64 p, .int .i64 K, .bool true, .bool true] 23)).alloc (.cells #[.int .i64 0, .int .i64 0, .int .i64 0] 25)).cell? ⟨n2, 0, none⟩ = some (.int .i64 2) := KC_47.out.c 0 rfl
    have xC1 : ((u4.alloc (.cells #[.int .i64 code, .int .i64 b, .int .i64 q, .int .i64 p, .int .i64 K, .bool true, .bool true] 23)).alloc (.cells #[.int .i64 0, .int .i64 0, .int .i64 0] 25)).cell? ⟨n2, 1, none⟩ = some (.int .i64 q) := KC_47.out.c 1 rfl
    have xC2 : ((u4.alloc (.cells #[.int .i64 code, .int .i64 b, .int .i64 q, .int .i64 p, .int .i64 K, .bool true, .bool true] 23)).alloc (.cells #[.int .i64 0, .int .i64 0, .int .i64 0] 25)).cell? ⟨n2, 2, none⟩ = some (.int .i64 r) := KC_47.out.c 2 rfl
    have zC : n2 < ((u4.alloc (.cells #[.int .i64 code, .int .i64 b, .int .i64 q, .int .i64 p, .int .i64 K, .bool true, .bool true] 23)).alloc (.cells #[.int .i64 0, .int .i64 0, .int .i64 0] 25)).heap.size := KC_47.out.2.2
    have z2C : n2 < ((u4.alloc (.cells #[.int .i64 code, .int .i64 b, .int .i64 q, .int .i64 p, .int .i64 K, .bool true, .bool true] 23)).alloc (.cells #[.int .i64 0, .int .i64 0, .int .i64 0] 25)).heap.size + 1 := by omega
    have xE0 : ((u4.alloc (.cells #[.int .i64 code, .int .i64 b, .int .i64 q, .int .i64 p, .int .i64 K, .bool true, .bool true] 23)).alloc (.cells #[.int .i64 0, .int .i64 0, .int .i64 0] 25)).cell? ⟨u3.heap.size, 0, none⟩ = some (.int .i64 code) := KE_48.out.c 0 rfl
    have xE1 : ((u4.alloc (.cells #[.int .i64 code, .int .i64 b, .int .i64 q, .int .i64 p, .int .i64 K, .bool true, .bool true] 23)).alloc (.cells #[.int .i64 0, .int .i64 0, .int .i64 0] 25)).cell? ⟨u3.heap.size, 1, none⟩ = some (.int .i64 a) := KE_48.out.c 1 rfl
    have xE2 : ((u4.alloc (.cells #[.int .i64 code, .int .i64 b, .int .i64 q, .int .i64 p, .int .i64 K, .bool true, .bool true] 23)).alloc (.cells #[.int .i64 0, .int .i64 0, .int .i64 0] 25)).cell? ⟨u3.heap.size, 2, none⟩ = some (.int .i64 p) := KE_48.out.c 2 rfl
    have xE3 : ((u4.alloc (.cells #[.int .i64 code, .int .i64 b, .int .i64 q, .int .i64 p, .int .i64 K, .bool true, .bool true] 23)).alloc (.cells #[.int .i64 0, .int .i64 0, .int .i64 0] 25)).cell? ⟨u3.heap.size, 3, none⟩ = some (.int .i64 q) := KE_48.out.c 3 rfl
    have xE4 : ((u4.alloc (.cells #[.int .i64 code, .int .i64 b, .int .i64 q, .int .i64 p, .int .i64 K, .bool true, .bool true] 23)).alloc (.cells #[.int .i64 0, .int .i64 0, .int .i64 0] 25)).cell? ⟨u3.heap.size, 4, none⟩ = some (.int .i64 K) := KE_48.out.c 4 rfl
    have xE5 : ((u4.alloc (.cells #[.int .i64 code, .int .i64 b, .int .i64 q, .int .i64 p, .int .i64 K, .bool true, .bool true] 23)).alloc (.cells #[.int .i64 0, .int .i64 0, .int .i64 0] 25)).cell? ⟨u3.heap.size, 5, none⟩ = some (.bool false) := KE_48.out.c 5 rfl
    have xE6 : ((u4.alloc (.cells #[.int .i64 code, .int .i64 b, .int .i64 q, .int .i64 p, .int .i64 K, .bool true, .bool true] 23)).alloc (.cells #[.int .i64 0, .int .i64 0, .int .i64 0] 25)).cell? ⟨u3.heap.size, 6, none⟩ = some (.bool true) := KE_48.out.c 6 rfl
    have zE : u3.heap.size < ((u4.alloc (.cells #[.int .i64 code, .int .i64 b, .int .i64 q, .int .i64 p, .int .i64 K, .bool true, .bool true] 23)).alloc (.cells #[.int .i64 0, .int .i64 0, .int .i64 0] 25)).heap.size := KE_48.out.2.2
    have z2E : u3.heap.size < ((u4.alloc (.cells #[.int .i64 code, .int .i64 b, .int .i64 q, .int .i64 p, .int .i64 K, .bool true, .bool true] 23)).alloc (.cells #[.int .i64 0, .int .i64 0, .int .i64 0] 25)).heap.size + 1 := by omega
    have xF0 : ((u4.alloc (.cells #[.int .i64 code, .int .i64 b, .int .i64 q, .int .i64 p, .int .i64 K, .bool true, .bool true] 23)).alloc (.cells #[.int .i64 0, .int .i64 0, .int .i64 0] 25)).cell? ⟨u3.heap.size + 1, 0, none⟩ = some (.int .i64 3) := KF_49.out.c 0 rfl
    have xF1 : ((u4.alloc (.cells #[.int .i64 code, .int .i64 b, .int .i64 q, .int .i64 p, .int .i64 K, .bool true, .bool true] 23)).alloc (.cells #[.int .i64 0, .int .i64 0, .int .i64 0] 25)).cell? ⟨u3.heap.size + 1, 1, none⟩ = some (.int .i64 0) := KF_49.out.c 1 rfl
    have xF2 : ((u4.alloc (.cells #[.int .i64 code, .int .i64 b, .int .i64 q, .int .i64 p, .int .i64 K, .bool true, .bool true] 23)).alloc (.cells #[.int .i64 0, .int .i64 0, .int .i64 0] 25)).cell? ⟨u3.heap.size + 1, 2, none⟩ = some (.int .i64 t) := KF_49.out.c 2 rfl
    have zF : u3.heap.size + 1 < ((u4.alloc (.cells #[.int .i64 code, .int .i64 b, .int .i64 q, .int .i64 p, .int .i64 K, .bool true, .bool true] 23)).alloc (.cells #[.int .i64 0, .int .i64 0, .int .i64 0] 25)).heap.size := KF_49.out.2.2
    have z2F : u3.heap.size + 1 < ((u4.alloc (.cells #[.int .i64 code, .int .i64 b, .int .i64 q, .int .i64 p, .int .i64 K, .bool true, .bool true] 23)).alloc (.cells #[.int .i64 0, .int .i64 0, .int .i64 0] 25)).heap.size + 1 := by omega
    have xG0 : ((u4.alloc (.cells #[.int .i64 code, .int .i64 b, .int .i64 q, .int .i64 p, .int .i64 K, .bool true, .bool true] 23)).alloc (.cells #[.int .i64 0, .int .i64 0, .int .i64 0] 25)).cell? ⟨u4.heap.size, 0, none⟩ = some (.int .i64 code) := KG_50.out.c 0 rfl
    have xG1 : ((u4.alloc (.cells #[.int .i64 code, .int .i64 b, .int .i64 q, .int .i64 p, .int .i64 K, .bool true, .bool true] 23)).alloc (.cells #[.int .i64 0, .int .i64 0, .int .i64 0] 25)).cell? ⟨u4.heap.size, 1, none⟩ = some (.int .i64 b) := KG_50.out.c 1 rfl
    have xG2 : ((u4.alloc (.cells #[.int .i64 code, .int .i64 b, .int .i64 q, .int .i64 p, .int .i64 K, .bool true, .bool true] 23)).alloc (.cells #[.int .i64 0, .int .i64 0, .int .i64 0] 25)).cell? ⟨u4.heap.size, 2, none⟩ = some (.int .i64 q) := KG_50.out.c 2 rfl
    have xG3 : ((u4.alloc (.cells #[.int .i64 code, .int .i64 b, .int .i64 q, .int .i64 p, .int .i64 K, .bool true, .bool true] 23)).alloc (.cells #[.int .i64 0, .int .i64 0, .int .i64 0] 25)).cell? ⟨u4.heap.size, 3, none⟩ = some (.int .i64 p) := KG_50.out.c 3 rfl
    have xG4 : ((u4.alloc (.cells #[.int .i64 code, .int .i64 b, .int .i64 q, .int .i64 p, .int .i64 K, .bool true, .bool true] 23)).alloc (.cells #[.int .i64 0, .int .i64 0, .int .i64 0] 25)).cell? ⟨u4.heap.size, 4, none⟩ = some (.int .i64 K) := KG_50.out.c 4 rfl
    have xG5 : ((u4.alloc (.cells #[.int .i64 code, .int .i64 b, .int .i64 q, .int .i64 p, .int .i64 K, .bool true, .bool true] 23)).alloc (.cells #[.int .i64 0, .int .i64 0, .int .i64 0] 25)).cell? ⟨u4.heap.size, 5, none⟩ = some (.bool true) := KG_50.out.c 5 rfl
    have xG6 : ((u4.alloc (.cells #[.int .i64 code, .int .i64 b, .int .i64 q, .int .i64 p, .int .i64 K, .bool true, .bool true] 23)).alloc (.cells #[.int .i64 0, .int .i64 0, .int .i64 0] 25)).cell? ⟨u4.heap.size, 6, none⟩ = some (.bool true) := KG_50.out.c 6 rfl
    have zG : u4.heap.size < ((u4.alloc (.cells #[.int .i64 code, .int .i64 b, .int .i64 q, .int .i64 p, .int .i64 K, .bool true, .bool true] 23)).alloc (.cells #[.int .i64 0, .int .i64 0, .int .i64 0] 25)).heap.size := KG_50.out.2.2
    have z2G : u4.heap.size < ((u4.alloc (.cells #[.int .i64 code, .int .i64 b, .int .i64 q, .int .i64 p, .int .i64 K, .bool true, .bool true] 23)).alloc (.cells #[.int .i64 0, .int .i64 0, .int .i64 0] 25)).heap.size + 1 := by omega
    have xI0 : ((u4.alloc (.cells #[.int .i64 code, .int .i64 b, .int .i64 q, .int .i64 p, .int .i64 K, .bool true, .bool true] 23)).alloc (.cells #[.int .i64 0, .int .i64 0, .int .i64 0] 25)).cell? ⟨u4.heap.size + 1, 0, none⟩ = some (.int .i64 0) := KI_51.out.c 0 rfl
    have xI1 : ((u4.alloc (.cells #[.int .i64 code, .int .i64 b, .int .i64 q, .int .i64 p, .int .i64 K, .bool true, .bool true] 23)).alloc (.cells #[.int .i64 0, .int .i64 0, .int .i64 0] 25)).cell? ⟨u4.heap.size + 1, 1, none⟩ = some (.int .i64 0) := KI_51.out.c 1 rfl
    have xI2 : ((u4.alloc (.cells #[.int .i64 code, .int .i64 b, .int .i64 q, .int .i64 p, .int .i64 K, .bool true, .bool true] 23)).alloc (.cells #[.int .i64 0, .int .i64 0, .int .i64 0] 25)).cell? ⟨u4.heap.size + 1, 2, none⟩ = some (.int .i64 0) := KI_51.out.c 2 rfl
    have zI : u4.heap.size + 1 < ((u4.alloc (.cells #[.int .i64 code, .int .i64 b, .int .i64 q, .int .i64 p, .int .i64 K, .bool true, .bool true] 23)).alloc (.cells #[.int .i64 0, .int .i64 0, .int .i64 0] 25)).heap.size := KI_51.out.2.2
    have z2I : u4.heap.size + 1 < ((u4.alloc (.cells #[.int .i64 code, .int .i64 b, .int .i64 q, .int .i64 p, .int .i64 K, .bool true, .bool true] 23)).alloc (.cells #[.int .i64 0, .int .i64 0, .int .i64 0] 25)).heap.size + 1 := by omega
    go_wp2
    go_ret
    exact ⟨rfl, HB52.out⟩
theorem agrees_any (code a b : Int) (w : World) : Calls Try.prog 4 #[.int .i64 code, .int .i64 a, .int .i64 b] w fun e w' => e = .returned (.bool true) ∧ Below w.heap.size w w' := by
  obtain ⟨p, hp⟩ : ∃ p, pw 7 a = p := ⟨_, rfl⟩
  obtain ⟨q, hq⟩ : ∃ q, pw 7 b = q := ⟨_, rfl⟩
  cases ha : accB p with
  | false => exact agrees_no code a b p q w hp hq ha (meetsNo hq ha)
  | true =>
    cases hb : accB q with
    | false => exact agrees_no2 code a b p q _ w hp hq ha hb (meets hq ha) (.agreeNo (vld_new hp) rfl rfl rfl hb)
    | true =>
      refine agrees_yes code a b p q (prf code b q p true 1) (prf code a p q false 2) (pw q a) w hp hq ha hb (pw_acc _ _ hb) (meets hq ha) (.agree (vld_new hp) rfl rfl rfl hb (by rw [prf_meet code hp hq]; simp)) ?_
      rw [← pw_same hp hq]
      exact .fin (vld_met (by simp [hq]) ha) rfl rfl rfl (acc_ne ha) (by rw [prf_meet code hp hq]; simp)
end Go.Proofs.Ytoggmladiakblaa
