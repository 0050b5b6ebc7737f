/- The walk of JoinChanged: where a number is not acceptable. -/
import Derived.Test.YtoggmladiakblaaJt
namespace Go.Proofs.Ytoggmladiakblaa
open Go.RowKit

set_option maxRecDepth 100000 in
set_option maxHeartbeats 4000000 in
theorem changed_no (code a b proof pub p q : Int) (w : World) (hp : pw 7 a = p) (hq : pw 7 b = q) (hw1 : RW code b q 0 0 true false 1 p 0 1 zj zh) (hw2 : RW code a p 0 0 false false 0 0 0 28 zj zh) : Calls Try.prog 6 #[.int .i64 code, .int .i64 a, .int .i64 b, .int .i64 proof, .int .i64 pub] w fun e w' => e = .returned (.bool true) ∧ Below w.heap.size w w' := by
  replace hp := Lib.hid hp
  replace hq := Lib.hid hq
  replace hw1 := Lib.hid hw1
  replace hw2 := Lib.hid hw2
  have HB0 := Lib.hid (Below.refl w.heap.size w)
  go_enter Try.func6, Try.ntmps6
  go_wp2_with fail
  refine (head_any _).mono ?_
  rintro e u1 ⟨rfl, b1⟩
  have HB1 := Lib.hid (keep2 b1 HB0.out)
  clear HB0 b1
  go_wp2_with fail
  refine (device_is code a p _ hp.out).mono ?_
  rintro e u2 ⟨rfl, b2⟩
  have HB2 := Lib.hid (keep2 b2 HB1.out)
  clear HB1 b2
  have KD_3 := Lib.hid (Cs.new u2 (u2.heap.size) #[.int .i64 code, .int .i64 a, .int .i64 p, .int .i64 0, .int .i64 0, .bool false, .bool false] 23 (by simp))
  have HB4 : Hid (Below w.heap.size w (u2.alloc (.cells #[.int .i64 code, .int .i64 a, .int .i64 p, .int .i64 0, .int .i64 0, .bool false, .bool false] 23))) := HB2.out.alloc HB2.out.size _
  clear HB2
  have KD_5 := Lib.hid (KD_3.out.alloc (.cells #[.int .i64 1, .int .i64 p, .int .i64 0] 25))
  clear KD_3
  have KA_6 := Lib.hid (Cs.new (u2.alloc (.cells #[.int .i64 code, .int .i64 a, .int .i64 p, .int .i64 0, .int .i64 0, .bool false, .bool false] 23)) (u2.heap.size + 1) #[.int .i64 1, .int .i64 p, .int .i64 0] 25 (by simp))
  have HB7 : Hid (Below w.heap.size w ((u2.alloc (.cells #[.int .i64 code, .int .i64 a, .int .i64 p, .int .i64 0, .int .i64 0, .bool false, .bool false] 23)).alloc (.cells #[.int .i64 1, .int .i64 p, .int .i64 0] 25))) := HB4.out.alloc HB4.out.size _
  clear HB4
  go_upto_region 3 with fail
  obtain ⟨wq, hwq⟩ : ∃ wq, ((u2.alloc (.cells #[.int .i64 code, .int .i64 a, .int .i64 p, .int .i64 0, .int .i64 0, .bool false, .bool false] 23)).alloc (.cells #[.int .i64 1, .int .i64 p, .int .i64 0] 25)) = wq := ⟨_, rfl⟩
  rw [hwq] at KD_5
  rw [hwq] at KA_6
  rw [hwq] at HB7 ⊢
  clear hwq
  go_cut [14, 15, 16] from 40 to 48 (fun pc qc rc wc => ∃ n1 n2 : Nat, pc = .pointer (some ⟨n1, 0, none⟩) ∧ qc = .pointer (some ⟨n2, 0, none⟩) ∧ rc = .int .i64 1 ∧ Hid (Cs wc n1 #[.int .i64 0, .int .i64 0, .int .i64 0, .int .i64 0, .int .i64 0, .bool false, .bool false]) ∧ Hid (Cs wc n2 #[.int .i64 0, .int .i64 0, .int .i64 0]) ∧ Below wq.heap.size wq wc)
  case first =>
    refine region_inv (fun bf ac wv => ∃ (n1 n2 : Nat) (v41 v42 v43 v44 v45 v40 v46 v47 v48 v14 v15 v16 : Value), ac = { tmps := #[.int .i64 code, .int .i64 a, .int .i64 b, .int .i64 proof, .int .i64 pub, undef, undef, undef, undef, undef, .bool false, .bool true, .pointer (some ⟨u2.heap.size, 0, none⟩), .pointer (some ⟨u2.heap.size + 1, 0, none⟩), v14, v15, v16, undef, undef, undef, undef, undef, undef, undef, undef, undef, undef, undef, undef, undef, undef, undef, undef, .bool true, .tuple #[.agg #[.int .i64 code, .int .i64 a, .int .i64 p, .int .i64 0, .int .i64 0, .bool false, .bool false], .agg #[.int .i64 1, .int .i64 p, .int .i64 0]], .int .i64 code, .int .i64 a, .tuple #[.agg #[.int .i64 code, .int .i64 a, .int .i64 p, .int .i64 0, .int .i64 0, .bool false, .bool false], .agg #[.int .i64 1, .int .i64 p, .int .i64 0]], .agg #[.int .i64 code, .int .i64 a, .int .i64 p, .int .i64 0, .int .i64 0, .bool false, .bool false], .agg #[.int .i64 1, .int .i64 p, .int .i64 0], v40, v41, v42, v43, v44, v45, v46, v47, v48, undef, undef, undef, undef, undef, undef, undef, undef, undef, undef, undef, undef, undef, undef, undef, undef, undef, undef, undef, undef, undef, undef, undef, undef, undef, undef, undef, undef, undef, undef, undef, undef, undef, undef, undef, undef, undef, undef, undef, undef, undef, undef, undef, undef, undef, undef, undef, undef, undef, undef, undef, undef, undef, undef, undef, undef, undef, undef, undef, undef, undef, undef, undef, undef, undef, undef, undef, undef, undef, undef, undef, undef, undef, undef, undef, undef, undef, undef, undef, undef, undef, undef, undef, undef, undef, undef, undef, undef, undef, undef, undef], defers := [] } ∧ Mem wq wv n1 n2 v14 v15 (bf 9) (bf 11) (bf 10) (bf 12) #[.int .i64 0, .int .i64 0, .int .i64 0, .int .i64 0, .int .i64 0, .bool false, .bool false] #[.int .i64 0, .int .i64 0, .int .i64 0] ∧ (bf 0 = true → v41 = .int .i64 code) ∧ (bf 1 = true → v42 = .int .i64 b) ∧ (bf 2 = true → v43 = .agg #[.int .i64 code, .int .i64 b, .int .i64 q, .int .i64 0, .int .i64 0, .bool true, .bool false]) ∧ (bf 3 = true → v44 = .agg #[.int .i64 1, .int .i64 p, .int .i64 0]) ∧ (bf 4 = true → v45 = .tuple #[.agg #[.int .i64 0, .int .i64 0, .int .i64 0, .int .i64 0, .int .i64 0, .bool false, .bool false], .agg #[.int .i64 0, .int .i64 0, .int .i64 0], .int .i64 1]) ∧ (bf 5 = true → v40 = .tuple #[.agg #[.int .i64 0, .int .i64 0, .int .i64 0, .int .i64 0, .int .i64 0, .bool false, .bool false], .agg #[.int .i64 0, .int .i64 0, .int .i64 0], .int .i64 1]) ∧ (bf 6 = true → v46 = .agg #[.int .i64 0, .int .i64 0, .int .i64 0, .int .i64 0, .int .i64 0, .bool false, .bool false]) ∧ (bf 7 = true → v47 = .agg #[.int .i64 0, .int .i64 0, .int .i64 0]) ∧ (bf 8 = true → v48 = .int .i64 1) ∧ (bf 13 = true → v16 = .int .i64 1)) (by kernel_rfl) (by decide +kernel) ?_ ?_ ?_
    · exact ⟨_, _, _, _, _, _, _, _, _, _, _, _, _, _, rfl, Mem.start _ _ _ _ _, (by simp), (by simp), (by simp), (by simp), (by simp), (by simp), (by simp), (by simp), (by simp), (by simp)⟩
    · refine ⟨?_, ?_, ?_, ?_, ?_, ?_, ?_, ?_, ?_, ?_, ?_, ?_, ?_, ?_, trivial⟩
      · intro bf ac wv hfb haf hJ K' hK
        obtain ⟨n1, n2, v41, v42, v43, v44, v45, v40, v46, v47, v48, v14, v15, v16, rfl, hM, g41, g42, g43, g44, g45, g40, g46, g47, g48, g16⟩ := hJ
        replace hK := Lib.hid hK
        replace hM := Lib.hid hM
        replace g41 := Lib.hid g41
        replace g42 := Lib.hid g42
        replace g43 := Lib.hid g43
        replace g44 := Lib.hid g44
        replace g45 := Lib.hid g45
        replace g40 := Lib.hid g40
        replace g46 := Lib.hid g46
        replace g47 := Lib.hid g47
        replace g48 := Lib.hid g48
        replace g16 := Lib.hid g16
        go_simp
        exact hK.out _ _ ⟨n1, n2, .int .i64 code, v42, v43, v44, v45, v40, v46, v47, v48, v14, v15, v16, rfl, hM.out, fun _ => rfl, g42.out, g43.out, g44.out, g45.out, g40.out, g46.out, g47.out, g48.out, g16.out⟩
      · intro bf ac wv hfb haf hJ K' hK
        obtain ⟨n1, n2, v41, v42, v43, v44, v45, v40, v46, v47, v48, v14, v15, v16, rfl, hM, g41, g42, g43, g44, g45, g40, g46, g47, g48, g16⟩ := hJ
        replace hK := Lib.hid hK
        replace hM := Lib.hid hM
        replace g41 := Lib.hid g41
        replace g42 := Lib.hid g42
        replace g43 := Lib.hid g43
        replace g44 := Lib.hid g44
        replace g45 := Lib.hid g45
        replace g40 := Lib.hid g40
        replace g46 := Lib.hid g46
        replace g47 := Lib.hid g47
        replace g48 := Lib.hid g48
        replace g16 := Lib.hid g16
        go_simp
        exact hK.out _ _ ⟨n1, n2, v41, .int .i64 b, v43, v44, v45, v40, v46, v47, v48, v14, v15, v16, rfl, hM.out, g41.out, fun _ => rfl, g43.out, g44.out, g45.out, g40.out, g46.out, g47.out, g48.out, g16.out⟩
      · intro bf ac wv hfb haf hJ K' hK
        obtain ⟨n1, n2, v41, v42, v43, v44, v45, v40, v46, v47, v48, v14, v15, v16, rfl, hM, g41, g42, g43, g44, g45, g40, g46, g47, g48, g16⟩ := hJ
        replace hK := Lib.hid hK
        replace hM := Lib.hid hM
        replace g41 := Lib.hid g41
        replace g42 := Lib.hid g42
        replace g43 := Lib.hid g43
        replace g44 := Lib.hid g44
        replace g45 := Lib.hid g45
        replace g40 := Lib.hid g40
        replace g46 := Lib.hid g46
        replace g47 := Lib.hid g47
        replace g48 := Lib.hid g48
        replace g16 := Lib.hid g16
        simp [Region.binds] at haf
        have hb0 : bf 0 = true := by simp [haf]
        have hb1 : bf 1 = true := by simp [haf]
        obtain rfl := g41.out hb0
        obtain rfl := g42.out hb1
        go_simp
        go_at_call 14
        refine (hub_is code b q _ hq.out).mono ?_
        rintro e w4 ⟨rfl, b4⟩
        exact hK.out _ _ ⟨n1, n2, .int .i64 code, .int .i64 b, .agg #[.int .i64 code, .int .i64 b, .int .i64 q, .int .i64 0, .int .i64 0, .bool true, .bool false], v44, v45, v40, v46, v47, v48, v14, v15, v16, rfl, hM.out.step b4, g41.out, g42.out, fun _ => rfl, g44.out, g45.out, g40.out, g46.out, g47.out, g48.out, g16.out⟩
      · intro bf ac wv hfb haf hJ K' hK
        obtain ⟨n1, n2, v41, v42, v43, v44, v45, v40, v46, v47, v48, v14, v15, v16, rfl, hM, g41, g42, g43, g44, g45, g40, g46, g47, g48, g16⟩ := hJ
        replace hK := Lib.hid hK
        replace hM := Lib.hid hM
        replace g41 := Lib.hid g41
        replace g42 := Lib.hid g42
        replace g43 := Lib.hid g43
        replace g44 := Lib.hid g44
        replace g45 := Lib.hid g45
        replace g40 := Lib.hid g40
        replace g46 := Lib.hid g46
        replace g47 := Lib.hid g47
        replace g48 := Lib.hid g48
        replace g16 := Lib.hid g16
        have hA := KA_6.out.step hM.out.below
        have xA0 := hA.c 0 rfl
        have xA1 := hA.c 1 rfl
        have xA2 := hA.c 2 rfl
        have zA := hA.2.2
        clear hA
        go_simp
        exact hK.out _ _ ⟨n1, n2, v41, v42, v43, .agg #[.int .i64 1, .int .i64 p, .int .i64 0], v45, v40, v46, v47, v48, v14, v15, v16, rfl, hM.out, g41.out, g42.out, g43.out, fun _ => rfl, g45.out, g40.out, g46.out, g47.out, g48.out, g16.out⟩
      · intro bf ac wv hfb haf hJ K' hK
        obtain ⟨n1, n2, v41, v42, v43, v44, v45, v40, v46, v47, v48, v14, v15, v16, rfl, hM, g41, g42, g43, g44, g45, g40, g46, g47, g48, g16⟩ := hJ
        replace hK := Lib.hid hK
        replace hM := Lib.hid hM
        replace g41 := Lib.hid g41
        replace g42 := Lib.hid g42
        replace g43 := Lib.hid g43
        replace g44 := Lib.hid g44
        replace g45 := Lib.hid g45
        replace g40 := Lib.hid g40
        replace g46 := Lib.hid g46
        replace g47 := Lib.hid g47
        replace g48 := Lib.hid g48
        replace g16 := Lib.hid g16
        simp [Region.binds] at haf
        have hb2 : bf 2 = true := by simp [haf]
        have hb3 : bf 3 = true := by simp [haf]
        obtain rfl := g43.out hb2
        obtain rfl := g44.out hb3
        go_simp
        go_at_call 12
        refine (recv_is code b q 0 0 true false 1 p 0 1 _ _ _ hw1.out).mono ?_
        rintro e w5 ⟨rfl, b5⟩
        exact hK.out _ _ ⟨n1, n2, v41, v42, .agg #[.int .i64 code, .int .i64 b, .int .i64 q, .int .i64 0, .int .i64 0, .bool true, .bool false], .agg #[.int .i64 1, .int .i64 p, .int .i64 0], .tuple #[.agg #[.int .i64 0, .int .i64 0, .int .i64 0, .int .i64 0, .int .i64 0, .bool false, .bool false], .agg #[.int .i64 0, .int .i64 0, .int .i64 0], .int .i64 1], v40, v46, v47, v48, v14, v15, v16, rfl, hM.out.step b5, g41.out, g42.out, g43.out, g44.out, fun _ => rfl, g40.out, g46.out, g47.out, g48.out, g16.out⟩
      · intro bf ac wv hfb haf hJ K' hK
        obtain ⟨n1, n2, v41, v42, v43, v44, v45, v40, v46, v47, v48, v14, v15, v16, rfl, hM, g41, g42, g43, g44, g45, g40, g46, g47, g48, g16⟩ := hJ
        replace hK := Lib.hid hK
        replace hM := Lib.hid hM
        replace g41 := Lib.hid g41
        replace g42 := Lib.hid g42
        replace g43 := Lib.hid g43
        replace g44 := Lib.hid g44
        replace g45 := Lib.hid g45
        replace g40 := Lib.hid g40
        replace g46 := Lib.hid g46
        replace g47 := Lib.hid g47
        replace g48 := Lib.hid g48
        replace g16 := Lib.hid g16
        simp [Region.binds] at haf
        have hb4 : bf 4 = true := by simp [haf]
        obtain rfl := g45.out hb4
        go_simp
        exact hK.out _ _ ⟨n1, n2, v41, v42, v43, v44, .tuple #[.agg #[.int .i64 0, .int .i64 0, .int .i64 0, .int .i64 0, .int .i64 0, .bool false, .bool false], .agg #[.int .i64 0, .int .i64 0, .int .i64 0], .int .i64 1], .tuple #[.agg #[.int .i64 0, .int .i64 0, .int .i64 0, .int .i64 0, .int .i64 0, .bool false, .bool false], .agg #[.int .i64 0, .int .i64 0, .int .i64 0], .int .i64 1], v46, v47, v48, v14, v15, v16, rfl, hM.out, g41.out, g42.out, g43.out, g44.out, g45.out, fun _ => rfl, g46.out, g47.out, g48.out, g16.out⟩
      · intro bf ac wv hfb haf hJ K' hK
        obtain ⟨n1, n2, v41, v42, v43, v44, v45, v40, v46, v47, v48, v14, v15, v16, rfl, hM, g41, g42, g43, g44, g45, g40, g46, g47, g48, g16⟩ := hJ
        replace hK := Lib.hid hK
        replace hM := Lib.hid hM
        replace g41 := Lib.hid g41
        replace g42 := Lib.hid g42
        replace g43 := Lib.hid g43
        replace g44 := Lib.hid g44
        replace g45 := Lib.hid g45
        replace g40 := Lib.hid g40
        replace g46 := Lib.hid g46
        replace g47 := Lib.hid g47
        replace g48 := Lib.hid g48
        replace g16 := Lib.hid g16
        simp [Region.binds] at haf
        have hb5 : bf 5 = true := by simp [haf]
        obtain rfl := g40.out hb5
        go_simp
        exact hK.out _ _ ⟨n1, n2, v41, v42, v43, v44, v45, .tuple #[.agg #[.int .i64 0, .int .i64 0, .int .i64 0, .int .i64 0, .int .i64 0, .bool false, .bool false], .agg #[.int .i64 0, .int .i64 0, .int .i64 0], .int .i64 1], .agg #[.int .i64 0, .int .i64 0, .int .i64 0, .int .i64 0, .int .i64 0, .bool false, .bool false], v47, v48, v14, v15, v16, rfl, hM.out, g41.out, g42.out, g43.out, g44.out, g45.out, g40.out, fun _ => rfl, g47.out, g48.out, g16.out⟩
      · intro bf ac wv hfb haf hJ K' hK
        obtain ⟨n1, n2, v41, v42, v43, v44, v45, v40, v46, v47, v48, v14, v15, v16, rfl, hM, g41, g42, g43, g44, g45, g40, g46, g47, g48, g16⟩ := hJ
        replace hK := Lib.hid hK
        replace hM := Lib.hid hM
        replace g41 := Lib.hid g41
        replace g42 := Lib.hid g42
        replace g43 := Lib.hid g43
        replace g44 := Lib.hid g44
        replace g45 := Lib.hid g45
        replace g40 := Lib.hid g40
        replace g46 := Lib.hid g46
        replace g47 := Lib.hid g47
        replace g48 := Lib.hid g48
        replace g16 := Lib.hid g16
        simp [Region.binds] at haf
        have hb5 : bf 5 = true := by simp [haf]
        obtain rfl := g40.out hb5
        go_simp
        exact hK.out _ _ ⟨n1, n2, v41, v42, v43, v44, v45, .tuple #[.agg #[.int .i64 0, .int .i64 0, .int .i64 0, .int .i64 0, .int .i64 0, .bool false, .bool false], .agg #[.int .i64 0, .int .i64 0, .int .i64 0], .int .i64 1], v46, .agg #[.int .i64 0, .int .i64 0, .int .i64 0], v48, v14, v15, v16, rfl, hM.out, g41.out, g42.out, g43.out, g44.out, g45.out, g40.out, g46.out, fun _ => rfl, g48.out, g16.out⟩
      · intro bf ac wv hfb haf hJ K' hK
        obtain ⟨n1, n2, v41, v42, v43, v44, v45, v40, v46, v47, v48, v14, v15, v16, rfl, hM, g41, g42, g43, g44, g45, g40, g46, g47, g48, g16⟩ := hJ
        replace hK := Lib.hid hK
        replace hM := Lib.hid hM
        replace g41 := Lib.hid g41
        replace g42 := Lib.hid g42
        replace g43 := Lib.hid g43
        replace g44 := Lib.hid g44
        replace g45 := Lib.hid g45
        replace g40 := Lib.hid g40
        replace g46 := Lib.hid g46
        replace g47 := Lib.hid g47
        replace g48 := Lib.hid g48
        replace g16 := Lib.hid g16
        simp [Region.binds] at haf
        have hb5 : bf 5 = true := by simp [haf]
        obtain rfl := g40.out hb5
        go_simp
        exact hK.out _ _ ⟨n1, n2, v41, v42, v43, v44, v45, .tuple #[.agg #[.int .i64 0, .int .i64 0, .int .i64 0, .int .i64 0, .int .i64 0, .bool false, .bool false], .agg #[.int .i64 0, .int .i64 0, .int .i64 0], .int .i64 1], v46, v47, .int .i64 1, v14, v15, v16, rfl, hM.out, g41.out, g42.out, g43.out, g44.out, g45.out, g40.out, g46.out, g47.out, fun _ => rfl, g16.out⟩
      · intro bf ac wv hfb haf hJ K' hK
        obtain ⟨n1, n2, v41, v42, v43, v44, v45, v40, v46, v47, v48, v14, v15, v16, rfl, hM, g41, g42, g43, g44, g45, g40, g46, g47, g48, g16⟩ := hJ
        replace hK := Lib.hid hK
        replace hM := Lib.hid hM
        replace g41 := Lib.hid g41
        replace g42 := Lib.hid g42
        replace g43 := Lib.hid g43
        replace g44 := Lib.hid g44
        replace g45 := Lib.hid g45
        replace g40 := Lib.hid g40
        replace g46 := Lib.hid g46
        replace g47 := Lib.hid g47
        replace g48 := Lib.hid g48
        replace g16 := Lib.hid g16
        obtain ⟨m2, hM2⟩ := hM.out.alloc1 hfb
        have hM2 := Lib.hid hM2
        clear hM
        go_simp
        exact hK.out _ _ ⟨_, m2, v41, v42, v43, v44, v45, v40, v46, v47, v48, _, v15, v16, rfl, hM2.out, g41.out, g42.out, g43.out, g44.out, g45.out, g40.out, g46.out, g47.out, g48.out, g16.out⟩
      · intro bf ac wv hfb haf hJ K' hK
        obtain ⟨n1, n2, v41, v42, v43, v44, v45, v40, v46, v47, v48, v14, v15, v16, rfl, hM, g41, g42, g43, g44, g45, g40, g46, g47, g48, g16⟩ := hJ
        replace hK := Lib.hid hK
        replace hM := Lib.hid hM
        replace g41 := Lib.hid g41
        replace g42 := Lib.hid g42
        replace g43 := Lib.hid g43
        replace g44 := Lib.hid g44
        replace g45 := Lib.hid g45
        replace g40 := Lib.hid g40
        replace g46 := Lib.hid g46
        replace g47 := Lib.hid g47
        replace g48 := Lib.hid g48
        replace g16 := Lib.hid g16
        obtain ⟨m1, hM2⟩ := hM.out.alloc2 hfb
        have hM2 := Lib.hid hM2
        clear hM
        go_simp
        exact hK.out _ _ ⟨m1, _, v41, v42, v43, v44, v45, v40, v46, v47, v48, v14, _, v16, rfl, hM2.out, g41.out, g42.out, g43.out, g44.out, g45.out, g40.out, g46.out, g47.out, g48.out, g16.out⟩
      · intro bf ac wv hfb haf hJ K' hK
        obtain ⟨n1, n2, v41, v42, v43, v44, v45, v40, v46, v47, v48, v14, v15, v16, rfl, hM, g41, g42, g43, g44, g45, g40, g46, g47, g48, g16⟩ := hJ
        replace hK := Lib.hid hK
        replace hM := Lib.hid hM
        replace g41 := Lib.hid g41
        replace g42 := Lib.hid g42
        replace g43 := Lib.hid g43
        replace g44 := Lib.hid g44
        replace g45 := Lib.hid g45
        replace g40 := Lib.hid g40
        replace g46 := Lib.hid g46
        replace g47 := Lib.hid g47
        replace g48 := Lib.hid g48
        replace g16 := Lib.hid g16
        simp [Region.binds] at haf
        have hb6 : bf 6 = true := by simp [haf]
        have hb9 : bf 9 = true := by simp [haf]
        obtain rfl := g46.out hb6
        obtain ⟨rfl, hZ⟩ := hM.out.zero1 hb9 hfb
        have hZ := Lib.hid hZ
        unfold ptr at hM hK ⊢
        have xZ0 := hZ.out.c 0 rfl
        have yZ0 := hZ.out.f 0 (by simp)
        have xZ1 := hZ.out.c 1 rfl
        have yZ1 := hZ.out.f 1 (by simp)
        have xZ2 := hZ.out.c 2 rfl
        have yZ2 := hZ.out.f 2 (by simp)
        have xZ3 := hZ.out.c 3 rfl
        have yZ3 := hZ.out.f 3 (by simp)
        have xZ4 := hZ.out.c 4 rfl
        have yZ4 := hZ.out.f 4 (by simp)
        have xZ5 := hZ.out.c 5 rfl
        have yZ5 := hZ.out.f 5 (by simp)
        have xZ6 := hZ.out.c 6 rfl
        have yZ6 := hZ.out.f 6 (by simp)
        have zZ := hZ.out.2.2
        go_simp
        have hM3 := hM.out; rw [hb9] at hM3
        have hM4 := hM3.store1 (Turned.all7 hZ.out)
        exact hK.out _ _ ⟨n1, n2, v41, v42, v43, v44, v45, v40, .agg #[.int .i64 0, .int .i64 0, .int .i64 0, .int .i64 0, .int .i64 0, .bool false, .bool false], v47, v48, .pointer (some ⟨n1, 0, none⟩), v15, v16, rfl, (by rw [show up bf 11 9 = true from hb9]; exact hM4), g41.out, g42.out, g43.out, g44.out, g45.out, g40.out, g46.out, g47.out, g48.out, g16.out⟩
      · intro bf ac wv hfb haf hJ K' hK
        obtain ⟨n1, n2, v41, v42, v43, v44, v45, v40, v46, v47, v48, v14, v15, v16, rfl, hM, g41, g42, g43, g44, g45, g40, g46, g47, g48, g16⟩ := hJ
        replace hK := Lib.hid hK
        replace hM := Lib.hid hM
        replace g41 := Lib.hid g41
        replace g42 := Lib.hid g42
        replace g43 := Lib.hid g43
        replace g44 := Lib.hid g44
        replace g45 := Lib.hid g45
        replace g40 := Lib.hid g40
        replace g46 := Lib.hid g46
        replace g47 := Lib.hid g47
        replace g48 := Lib.hid g48
        replace g16 := Lib.hid g16
        simp [Region.binds] at haf
        have hb7 : bf 7 = true := by simp [haf]
        have hb10 : bf 10 = true := by simp [haf]
        obtain rfl := g47.out hb7
        obtain ⟨rfl, hZ⟩ := hM.out.zero2 hb10 hfb
        have hZ := Lib.hid hZ
        unfold ptr at hM hK ⊢
        have xZ0 := hZ.out.c 0 rfl
        have yZ0 := hZ.out.f 0 (by simp)
        have xZ1 := hZ.out.c 1 rfl
        have yZ1 := hZ.out.f 1 (by simp)
        have xZ2 := hZ.out.c 2 rfl
        have yZ2 := hZ.out.f 2 (by simp)
        have zZ := hZ.out.2.2
        go_simp
        have hM3 := hM.out; rw [hb10] at hM3
        have hM4 := hM3.store2 (Turned.all3 hZ.out)
        exact hK.out _ _ ⟨n1, n2, v41, v42, v43, v44, v45, v40, v46, .agg #[.int .i64 0, .int .i64 0, .int .i64 0], v48, v14, .pointer (some ⟨n2, 0, none⟩), v16, rfl, (by rw [show up bf 12 10 = true from hb10]; exact hM4), g41.out, g42.out, g43.out, g44.out, g45.out, g40.out, g46.out, g47.out, g48.out, g16.out⟩
      · intro bf ac wv hfb haf hJ K' hK
        obtain ⟨n1, n2, v41, v42, v43, v44, v45, v40, v46, v47, v48, v14, v15, v16, rfl, hM, g41, g42, g43, g44, g45, g40, g46, g47, g48, g16⟩ := hJ
        replace hK := Lib.hid hK
        replace hM := Lib.hid hM
        replace g41 := Lib.hid g41
        replace g42 := Lib.hid g42
        replace g43 := Lib.hid g43
        replace g44 := Lib.hid g44
        replace g45 := Lib.hid g45
        replace g40 := Lib.hid g40
        replace g46 := Lib.hid g46
        replace g47 := Lib.hid g47
        replace g48 := Lib.hid g48
        replace g16 := Lib.hid g16
        simp [Region.binds] at haf
        have hb8 : bf 8 = true := by simp [haf]
        obtain rfl := g48.out hb8
        go_simp
        exact hK.out _ _ ⟨n1, n2, v41, v42, v43, v44, v45, v40, v46, v47, .int .i64 1, v14, v15, .int .i64 1, rfl, hM.out, g41.out, g42.out, g43.out, g44.out, g45.out, g40.out, g46.out, g47.out, g48.out, fun _ => rfl⟩
    · intro bf ac wv hall hJ
      obtain ⟨n1, n2, v41, v42, v43, v44, v45, v40, v46, v47, v48, v14, v15, v16, rfl, hM, g41, g42, g43, g44, g45, g40, g46, g47, g48, g16⟩ := hJ
      obtain rfl := g16 (hall 13 (by decide))
      rw [hall 9 (by decide), hall 10 (by decide), hall 11 (by decide), hall 12 (by decide)] at hM
      obtain ⟨rfl, h1⟩ := hM.c1 rfl
      obtain ⟨rfl, h2⟩ := hM.c2 rfl
      have hB := hM.below
      clear g41 g42 g43 g44 g45 g40 g46 g47 g48 g16 hM hall
      unfold ptr
      go_wp2
      go_meet
      exact ⟨n1, n2, rfl, rfl, rfl, Lib.hid h1, Lib.hid h2, hB⟩
  case rest =>
    obtain ⟨n1, n2, rfl, rfl, rfl, hJ, hH, hB⟩ := hcut
    have KD_8 := Lib.hid (KD_5.out.step hB)
    clear KD_5
    have KA_9 := Lib.hid (KA_6.out.step hB)
    clear KA_6
    have HB10 := Lib.hid (keep2 hB HB7.out)
    clear HB7 hB
    have xD0 : wc.cell? ⟨u2.heap.size, 0, none⟩ = some (.int .i64 code) := KD_8.out.c 0 rfl
    have xD1 : wc.cell? ⟨u2.heap.size, 1, none⟩ = some (.int .i64 a) := KD_8.out.c 1 rfl
    have xD2 : wc.cell? ⟨u2.heap.size, 2, none⟩ = some (.int .i64 p) := KD_8.out.c 2 rfl
    have xD3 : wc.cell? ⟨u2.heap.size, 3, none⟩ = some (.int .i64 0) := KD_8.out.c 3 rfl
    have xD4 : wc.cell? ⟨u2.heap.size, 4, none⟩ = some (.int .i64 0) := KD_8.out.c 4 rfl
    have xD5 : wc.cell? ⟨u2.heap.size, 5, none⟩ = some (.bool false) := KD_8.out.c 5 rfl
    have xD6 : wc.cell? ⟨u2.heap.size, 6, none⟩ = some (.bool false) := KD_8.out.c 6 rfl
    have zD : u2.heap.size < wc.heap.size := KD_8.out.2.2
    have z2D : u2.heap.size < wc.heap.size + 1 := by omega
    have xC0 : wc.cell? ⟨n2, 0, none⟩ = some (.int .i64 0) := hH.out.c 0 rfl
    have xC1 : wc.cell? ⟨n2, 1, none⟩ = some (.int .i64 0) := hH.out.c 1 rfl
    have xC2 : wc.cell? ⟨n2, 2, none⟩ = some (.int .i64 0) := hH.out.c 2 rfl
    have zC : n2 < wc.heap.size := hH.out.2.2
    have z2C : n2 < wc.heap.size + 1 := by omega
    go_wp2_with fail
    refine (recv_is code a p 0 0 false false 0 0 0 28 _ _ _ hw2.out).mono ?_
    rintro e u3 ⟨rfl, b3⟩
    clear xD0 xD1 xD2 xD3 xD4 xD5 xD6 zD z2D xC0 xC1 xC2 zC z2C
    have KD_11 := Lib.hid (KD_8.out.step b3)
    clear KD_8
    have KA_12 := Lib.hid (KA_9.out.step b3)
    clear KA_9
    have KB_13 := Lib.hid (hJ.out.step b3)
    clear hJ
    have KC_14 := Lib.hid (hH.out.step b3)
    clear hH
    have HB15 := Lib.hid (keep2 b3 HB10.out)
    clear HB10 b3
    have KD_16 := Lib.hid (KD_11.out.alloc (.cells #[.int .i64 0, .int .i64 0, .int .i64 0, .int .i64 0, .int .i64 0, .bool false, .bool false] 23))
    clear KD_11
    have KA_17 := Lib.hid (KA_12.out.alloc (.cells #[.int .i64 0, .int .i64 0, .int .i64 0, .int .i64 0, .int .i64 0, .bool false, .bool false] 23))
    clear KA_12
    have KB_18 := Lib.hid (KB_13.out.alloc (.cells #[.int .i64 0, .int .i64 0, .int .i64 0, .int .i64 0, .int .i64 0, .bool false, .bool false] 23))
    clear KB_13
    have KC_19 := Lib.hid (KC_14.out.alloc (.cells #[.int .i64 0, .int .i64 0, .int .i64 0, .int .i64 0, .int .i64 0, .bool false, .bool false] 23))
    clear KC_14
    have HB20 : Hid (Below w.heap.size w (u3.alloc (.cells #[.int .i64 0, .int .i64 0, .int .i64 0, .int .i64 0, .int .i64 0, .bool false, .bool false] 23))) := HB15.out.alloc HB15.out.size _
    clear HB15
    have KD_21 := Lib.hid (KD_16.out.alloc (.cells #[.int .i64 0, .int .i64 0, .int .i64 0] 25))
    clear KD_16
    have KA_22 := Lib.hid (KA_17.out.alloc (.cells #[.int .i64 0, .int .i64 0, .int .i64 0] 25))
    clear KA_17
    have KB_23 := Lib.hid (KB_18.out.alloc (.cells #[.int .i64 0, .int .i64 0, .int .i64 0] 25))
    clear KB_18
    have KC_24 := Lib.hid (KC_19.out.alloc (.cells #[.int .i64 0, .int .i64 0, .int .i64 0] 25))
    clear KC_19
    have HB25 : Hid (Below w.heap.size w ((u3.alloc (.cells #[.int .i64 0, .int .i64 0, .int .i64 0, .int .i64 0, .int .i64 0, .bool false, .bool false] 23)).alloc (.cells #[.int .i64 0, .int .i64 0, .int .i64 0] 25))) := HB20.out.alloc HB20.out.size _
    clear HB20
    go_wp2
    go_ret
    exact ⟨rfl, HB25.out⟩
set_option maxRecDepth 100000 in
set_option maxHeartbeats 4000000 in
theorem changed_no2 (code a b proof pub p q r : Int) (w : World) (hp : pw 7 a = p) (hq : pw 7 b = q) (hw1 : RW code b q 0 0 true false 1 p 0 0 (jc code b q p 0 true false) (hc3 2 q r)) (hw2 : RW code a p 0 0 false false 2 q r 1 zj zh) : Calls Try.prog 6 #[.int .i64 code, .int .i64 a, .int .i64 b, .int .i64 proof, .int .i64 pub] w fun e w' => e = .returned (.bool true) ∧ Below w.heap.size w w' := by
  replace hp := Lib.hid hp
  replace hq := Lib.hid hq
  replace hw1 := Lib.hid hw1
  replace hw2 := Lib.hid hw2
  have HB0 := Lib.hid (Below.refl w.heap.size w)
  go_enter Try.func6, Try.ntmps6
  go_wp2_with fail
  refine (head_any _).mono ?_
  rintro e u1 ⟨rfl, b1⟩
  have HB1 := Lib.hid (keep2 b1 HB0.out)
  clear HB0 b1
  go_wp2_with fail
  refine (device_is code a p _ hp.out).mono ?_
  rintro e u2 ⟨rfl, b2⟩
  have HB2 := Lib.hid (keep2 b2 HB1.out)
  clear HB1 b2
  have KD_3 := Lib.hid (Cs.new u2 (u2.heap.size) #[.int .i64 code, .int .i64 a, .int .i64 p, .int .i64 0, .int .i64 0, .bool false, .bool false] 23 (by simp))
  have HB4 : Hid (Below w.heap.size w (u2.alloc (.cells #[.int .i64 code, .int .i64 a, .int .i64 p, .int .i64 0, .int .i64 0, .bool false, .bool false] 23))) := HB2.out.alloc HB2.out.size _
  clear HB2
  have KD_5 := Lib.hid (KD_3.out.alloc (.cells #[.int .i64 1, .int .i64 p, .int .i64 0] 25))
  clear KD_3
  have KA_6 := Lib.hid (Cs.new (u2.alloc (.cells #[.int .i64 code, .int .i64 a, .int .i64 p, .int .i64 0, .int .i64 0, .bool false, .bool false] 23)) (u2.heap.size + 1) #[.int .i64 1, .int .i64 p, .int .i64 0] 25 (by simp))
  have HB7 : Hid (Below w.heap.size w ((u2.alloc (.cells #[.int .i64 code, .int .i64 a, .int .i64 p, .int .i64 0, .int .i64 0, .bool false, .bool false] 23)).alloc (.cells #[.int .i64 1, .int .i64 p, .int .i64 0] 25))) := HB4.out.alloc HB4.out.size _
  clear HB4
  go_upto_region 3 with fail
  obtain ⟨wq, hwq⟩ : ∃ wq, ((u2.alloc (.cells #[.int .i64 code, .int .i64 a, .int .i64 p, .int .i64 0, .int .i64 0, .bool false, .bool false] 23)).alloc (.cells #[.int .i64 1, .int .i64 p, .int .i64 0] 25)) = wq := ⟨_, rfl⟩
  rw [hwq] at KD_5
  rw [hwq] at KA_6
  rw [hwq] at HB7 ⊢
  clear hwq
  go_cut [14, 15, 16] from 40 to 48 (fun pc qc rc wc => ∃ n1 n2 : Nat, pc = .pointer (some ⟨n1, 0, none⟩) ∧ qc = .pointer (some ⟨n2, 0, none⟩) ∧ rc = .int .i64 0 ∧ Hid (Cs wc n1 #[.int .i64 code, .int .i64 b, .int .i64 q, .int .i64 p, .int .i64 0, .bool true, .bool false]) ∧ Hid (Cs wc n2 #[.int .i64 2, .int .i64 q, .int .i64 r]) ∧ Below wq.heap.size wq wc)
  case first =>
    refine region_inv (fun bf ac wv => ∃ (n1 n2 : Nat) (v41 v42 v43 v44 v45 v40 v46 v47 v48 v14 v15 v16 : Value), ac = { tmps := #[.int .i64 code, .int .i64 a, .int .i64 b, .int .i64 proof, .int .i64 pub, undef, undef, undef, undef, undef, .bool false, .bool true, .pointer (some ⟨u2.heap.size, 0, none⟩), .pointer (some ⟨u2.heap.size + 1, 0, none⟩), v14, v15, v16, undef, undef, undef, undef, undef, undef, undef, undef, undef, undef, undef, undef, undef, undef, undef, undef, .bool true, .tuple #[.agg #[.int .i64 code, .int .i64 a, .int .i64 p, .int .i64 0, .int .i64 0, .bool false, .bool false], .agg #[.int .i64 1, .int .i64 p, .int .i64 0]], .int .i64 code, .int .i64 a, .tuple #[.agg #[.int .i64 code, .int .i64 a, .int .i64 p, .int .i64 0, .int .i64 0, .bool false, .bool false], .agg #[.int .i64 1, .int .i64 p, .int .i64 0]], .agg #[.int .i64 code, .int .i64 a, .int .i64 p, .int .i64 0, .int .i64 0, .bool false, .bool false], .agg #[.int .i64 1, .int .i64 p, .int .i64 0], v40, v41, v42, v43, v44, v45, v46, v47, v48, undef, undef, undef, undef, undef, undef, undef, undef, undef, undef, undef, undef, undef, undef, undef, undef, undef, undef, undef, undef, undef, undef, undef, undef, undef, undef, undef, undef, undef, undef, undef, undef, undef, undef, undef, undef, undef, undef, undef, undef, undef, undef, undef, undef, undef, undef, undef, undef, undef, undef, undef, undef, undef, undef, undef, undef, undef, undef, undef, undef, undef, undef, undef, undef, undef, undef, undef, undef, undef, undef, undef, undef, undef, undef, undef, undef, undef, undef, undef, undef, undef, undef, undef, undef, undef, undef, undef, undef, undef, undef, undef], defers := [] } ∧ Mem wq wv n1 n2 v14 v15 (bf 9) (bf 11) (bf 10) (bf 12) #[.int .i64 code, .int .i64 b, .int .i64 q, .int .i64 p, .int .i64 0, .bool true, .bool false] #[.int .i64 2, .int .i64 q, .int .i64 r] ∧ (bf 0 = true → v41 = .int .i64 code) ∧ (bf 1 = true → v42 = .int .i64 b) ∧ (bf 2 = true → v43 = .agg #[.int .i64 code, .int .i64 b, .int .i64 q, .int .i64 0, .int .i64 0, .bool true, .bool false]) ∧ (bf 3 = true → v44 = .agg #[.int .i64 1, .int .i64 p, .int .i64 0]) ∧ (bf 4 = true → v45 = .tuple #[.agg #[.int .i64 code, .int .i64 b, .int .i64 q, .int .i64 p, .int .i64 0, .bool true, .bool false], .agg #[.int .i64 2, .int .i64 q, .int .i64 r], .int .i64 0]) ∧ (bf 5 = true → v40 = .tuple #[.agg #[.int .i64 code, .int .i64 b, .int .i64 q, .int .i64 p, .int .i64 0, .bool true, .bool false], .agg #[.int .i64 2, .int .i64 q, .int .i64 r], .int .i64 0]) ∧ (bf 6 = true → v46 = .agg #[.int .i64 code, .int .i64 b, .int .i64 q, .int .i64 p, .int .i64 0, .bool true, .bool false]) ∧ (bf 7 = true → v47 = .agg #[.int .i64 2, .int .i64 q, .int .i64 r]) ∧ (bf 8 = true → v48 = .int .i64 0) ∧ (bf 13 = true → v16 = .int .i64 0)) (by kernel_rfl) (by decide +kernel) ?_ ?_ ?_
    · exact ⟨_, _, _, _, _, _, _, _, _, _, _, _, _, _, rfl, Mem.start _ _ _ _ _, (by simp), (by simp), (by simp), (by simp), (by simp), (by simp), (by simp), (by simp), (by simp), (by simp)⟩
    · refine ⟨?_, ?_, ?_, ?_, ?_, ?_, ?_, ?_, ?_, ?_, ?_, ?_, ?_, ?_, trivial⟩
      · intro bf ac wv hfb haf hJ K' hK
        obtain ⟨n1, n2, v41, v42, v43, v44, v45, v40, v46, v47, v48, v14, v15, v16, rfl, hM, g41, g42, g43, g44, g45, g40, g46, g47, g48, g16⟩ := hJ
        replace hK := Lib.hid hK
        replace hM := Lib.hid hM
        replace g41 := Lib.hid g41
        replace g42 := Lib.hid g42
        replace g43 := Lib.hid g43
        replace g44 := Lib.hid g44
        replace g45 := Lib.hid g45
        replace g40 := Lib.hid g40
        replace g46 := Lib.hid g46
        replace g47 := Lib.hid g47
        replace g48 := Lib.hid g48
        replace g16 := Lib.hid g16
        go_simp
        exact hK.out _ _ ⟨n1, n2, .int .i64 code, v42, v43, v44, v45, v40, v46, v47, v48, v14, v15, v16, rfl, hM.out, fun _ => rfl, g42.out, g43.out, g44.out, g45.out, g40.out, g46.out, g47.out, g48.out, g16.out⟩
      · intro bf ac wv hfb haf hJ K' hK
        obtain ⟨n1, n2, v41, v42, v43, v44, v45, v40, v46, v47, v48, v14, v15, v16, rfl, hM, g41, g42, g43, g44, g45, g40, g46, g47, g48, g16⟩ := hJ
        replace hK := Lib.hid hK
        replace hM := Lib.hid hM
        replace g41 := Lib.hid g41
        replace g42 := Lib.hid g42
        replace g43 := Lib.hid g43
        replace g44 := Lib.hid g44
        replace g45 := Lib.hid g45
        replace g40 := Lib.hid g40
        replace g46 := Lib.hid g46
        replace g47 := Lib.hid g47
        replace g48 := Lib.hid g48
        replace g16 := Lib.hid g16
        go_simp
        exact hK.out _ _ ⟨n1, n2, v41, .int .i64 b, v43, v44, v45, v40, v46, v47, v48, v14, v15, v16, rfl, hM.out, g41.out, fun _ => rfl, g43.out, g44.out, g45.out, g40.out, g46.out, g47.out, g48.out, g16.out⟩
      · intro bf ac wv hfb haf hJ K' hK
        obtain ⟨n1, n2, v41, v42, v43, v44, v45, v40, v46, v47, v48, v14, v15, v16, rfl, hM, g41, g42, g43, g44, g45, g40, g46, g47, g48, g16⟩ := hJ
        replace hK := Lib.hid hK
        replace hM := Lib.hid hM
        replace g41 := Lib.hid g41
        replace g42 := Lib.hid g42
        replace g43 := Lib.hid g43
        replace g44 := Lib.hid g44
        replace g45 := Lib.hid g45
        replace g40 := Lib.hid g40
        replace g46 := Lib.hid g46
        replace g47 := Lib.hid g47
        replace g48 := Lib.hid g48
        replace g16 := Lib.hid g16
        simp [Region.binds] at haf
        have hb0 : bf 0 = true := by simp [haf]
        have hb1 : bf 1 = true := by simp [haf]
        obtain rfl := g41.out hb0
        obtain rfl := g42.out hb1
        go_simp
        go_at_call 14
        refine (hub_is code b q _ hq.out).mono ?_
        rintro e w4 ⟨rfl, b4⟩
        exact hK.out _ _ ⟨n1, n2, .int .i64 code, .int .i64 b, .agg #[.int .i64 code, .int .i64 b, .int .i64 q, .int .i64 0, .int .i64 0, .bool true, .bool false], v44, v45, v40, v46, v47, v48, v14, v15, v16, rfl, hM.out.step b4, g41.out, g42.out, fun _ => rfl, g44.out, g45.out, g40.out, g46.out, g47.out, g48.out, g16.out⟩
      · intro bf ac wv hfb haf hJ K' hK
        obtain ⟨n1, n2, v41, v42, v43, v44, v45, v40, v46, v47, v48, v14, v15, v16, rfl, hM, g41, g42, g43, g44, g45, g40, g46, g47, g48, g16⟩ := hJ
        replace hK := Lib.hid hK
        replace hM := Lib.hid hM
        replace g41 := Lib.hid g41
        replace g42 := Lib.hid g42
        replace g43 := Lib.hid g43
        replace g44 := Lib.hid g44
        replace g45 := Lib.hid g45
        replace g40 := Lib.hid g40
        replace g46 := Lib.hid g46
        replace g47 := Lib.hid g47
        replace g48 := Lib.hid g48
        replace g16 := Lib.hid g16
        have hA := KA_6.out.step hM.out.below
        have xA0 := hA.c 0 rfl
        have xA1 := hA.c 1 rfl
        have xA2 := hA.c 2 rfl
        have zA := hA.2.2
        clear hA
        go_simp
        exact hK.out _ _ ⟨n1, n2, v41, v42, v43, .agg #[.int .i64 1, .int .i64 p, .int .i64 0], v45, v40, v46, v47, v48, v14, v15, v16, rfl, hM.out, g41.out, g42.out, g43.out, fun _ => rfl, g45.out, g40.out, g46.out, g47.out, g48.out, g16.out⟩
      · intro bf ac wv hfb haf hJ K' hK
        obtain ⟨n1, n2, v41, v42, v43, v44, v45, v40, v46, v47, v48, v14, v15, v16, rfl, hM, g41, g42, g43, g44, g45, g40, g46, g47, g48, g16⟩ := hJ
        replace hK := Lib.hid hK
        replace hM := Lib.hid hM
        replace g41 := Lib.hid g41
        replace g42 := Lib.hid g42
        replace g43 := Lib.hid g43
        replace g44 := Lib.hid g44
        replace g45 := Lib.hid g45
        replace g40 := Lib.hid g40
        replace g46 := Lib.hid g46
        replace g47 := Lib.hid g47
        replace g48 := Lib.hid g48
        replace g16 := Lib.hid g16
        simp [Region.binds] at haf
        have hb2 : bf 2 = true := by simp [haf]
        have hb3 : bf 3 = true := by simp [haf]
        obtain rfl := g43.out hb2
        obtain rfl := g44.out hb3
        go_simp
        go_at_call 12
        refine (recv_is code b q 0 0 true false 1 p 0 0 _ _ _ hw1.out).mono ?_
        rintro e w5 ⟨rfl, b5⟩
        exact hK.out _ _ ⟨n1, n2, v41, v42, .agg #[.int .i64 code, .int .i64 b, .int .i64 q, .int .i64 0, .int .i64 0, .bool true, .bool false], .agg #[.int .i64 1, .int .i64 p, .int .i64 0], .tuple #[.agg #[.int .i64 code, .int .i64 b, .int .i64 q, .int .i64 p, .int .i64 0, .bool true, .bool false], .agg #[.int .i64 2, .int .i64 q, .int .i64 r], .int .i64 0], v40, v46, v47, v48, v14, v15, v16, rfl, hM.out.step b5, g41.out, g42.out, g43.out, g44.out, fun _ => rfl, g40.out, g46.out, g47.out, g48.out, g16.out⟩
      · intro bf ac wv hfb haf hJ K' hK
        obtain ⟨n1, n2, v41, v42, v43, v44, v45, v40, v46, v47, v48, v14, v15, v16, rfl, hM, g41, g42, g43, g44, g45, g40, g46, g47, g48, g16⟩ := hJ
        replace hK := Lib.hid hK
        replace hM := Lib.hid hM
        replace g41 := Lib.hid g41
        replace g42 := Lib.hid g42
        replace g43 := Lib.hid g43
        replace g44 := Lib.hid g44
        replace g45 := Lib.hid g45
        replace g40 := Lib.hid g40
        replace g46 := Lib.hid g46
        replace g47 := Lib.hid g47
        replace g48 := Lib.hid g48
        replace g16 := Lib.hid g16
        simp [Region.binds] at haf
        have hb4 : bf 4 = true := by simp [haf]
        obtain rfl := g45.out hb4
        go_simp
        exact hK.out _ _ ⟨n1, n2, v41, v42, v43, v44, .tuple #[.agg #[.int .i64 code, .int .i64 b, .int .i64 q, .int .i64 p, .int .i64 0, .bool true, .bool false], .agg #[.int .i64 2, .int .i64 q, .int .i64 r], .int .i64 0], .tuple #[.agg #[.int .i64 code, .int .i64 b, .int .i64 q, .int .i64 p, .int .i64 0, .bool true, .bool false], .agg #[.int .i64 2, .int .i64 q, .int .i64 r], .int .i64 0], v46, v47, v48, v14, v15, v16, rfl, hM.out, g41.out, g42.out, g43.out, g44.out, g45.out, fun _ => rfl, g46.out, g47.out, g48.out, g16.out⟩
      · intro bf ac wv hfb haf hJ K' hK
        obtain ⟨n1, n2, v41, v42, v43, v44, v45, v40, v46, v47, v48, v14, v15, v16, rfl, hM, g41, g42, g43, g44, g45, g40, g46, g47, g48, g16⟩ := hJ
        replace hK := Lib.hid hK
        replace hM := Lib.hid hM
        replace g41 := Lib.hid g41
        replace g42 := Lib.hid g42
        replace g43 := Lib.hid g43
        replace g44 := Lib.hid g44
        replace g45 := Lib.hid g45
        replace g40 := Lib.hid g40
        replace g46 := Lib.hid g46
        replace g47 := Lib.hid g47
        replace g48 := Lib.hid g48
        replace g16 := Lib.hid g16
        simp [Region.binds] at haf
        have hb5 : bf 5 = true := by simp [haf]
        obtain rfl := g40.out hb5
        go_simp
        exact hK.out _ _ ⟨n1, n2, v41, v42, v43, v44, v45, .tuple #[.agg #[.int .i64 code, .int .i64 b, .int .i64 q, .int .i64 p, .int .i64 0, .bool true, .bool false], .agg #[.int .i64 2, .int .i64 q, .int .i64 r], .int .i64 0], .agg #[.int .i64 code, .int .i64 b, .int .i64 q, .int .i64 p, .int .i64 0, .bool true, .bool false], v47, v48, v14, v15, v16, rfl, hM.out, g41.out, g42.out, g43.out, g44.out, g45.out, g40.out, fun _ => rfl, g47.out, g48.out, g16.out⟩
      · intro bf ac wv hfb haf hJ K' hK
        obtain ⟨n1, n2, v41, v42, v43, v44, v45, v40, v46, v47, v48, v14, v15, v16, rfl, hM, g41, g42, g43, g44, g45, g40, g46, g47, g48, g16⟩ := hJ
        replace hK := Lib.hid hK
        replace hM := Lib.hid hM
        replace g41 := Lib.hid g41
        replace g42 := Lib.hid g42
        replace g43 := Lib.hid g43
        replace g44 := Lib.hid g44
        replace g45 := Lib.hid g45
        replace g40 := Lib.hid g40
        replace g46 := Lib.hid g46
        replace g47 := Lib.hid g47
        replace g48 := Lib.hid g48
        replace g16 := Lib.hid g16
        simp [Region.binds] at haf
        have hb5 : bf 5 = true := by simp [haf]
        obtain rfl := g40.out hb5
        go_simp
        exact hK.out _ _ ⟨n1, n2, v41, v42, v43, v44, v45, .tuple #[.agg #[.int .i64 code, .int .i64 b, .int .i64 q, .int .i64 p, .int .i64 0, .bool true, .bool false], .agg #[.int .i64 2, .int .i64 q, .int .i64 r], .int .i64 0], v46, .agg #[.int .i64 2, .int .i64 q, .int .i64 r], v48, v14, v15, v16, rfl, hM.out, g41.out, g42.out, g43.out, g44.out, g45.out, g40.out, g46.out, fun _ => rfl, g48.out, g16.out⟩
      · intro bf ac wv hfb haf hJ K' hK
        obtain ⟨n1, n2, v41, v42, v43, v44, v45, v40, v46, v47, v48, v14, v15, v16, rfl, hM, g41, g42, g43, g44, g45, g40, g46, g47, g48, g16⟩ := hJ
        replace hK := Lib.hid hK
        replace hM := Lib.hid hM
        replace g41 := Lib.hid g41
        replace g42 := Lib.hid g42
        replace g43 := Lib.hid g43
        replace g44 := Lib.hid g44
        replace g45 := Lib.hid g45
        replace g40 := Lib.hid g40
        replace g46 := Lib.hid g46
        replace g47 := Lib.hid g47
        replace g48 := Lib.hid g48
        replace g16 := Lib.hid g16
        simp [Region.binds] at haf
        have hb5 : bf 5 = true := by simp [haf]
        obtain rfl := g40.out hb5
        go_simp
        exact hK.out _ _ ⟨n1, n2, v41, v42, v43, v44, v45, .tuple #[.agg #[.int .i64 code, .int .i64 b, .int .i64 q, .int .i64 p, .int .i64 0, .bool true, .bool false], .agg #[.int .i64 2, .int .i64 q, .int .i64 r], .int .i64 0], v46, v47, .int .i64 0, v14, v15, v16, rfl, hM.out, g41.out, g42.out, g43.out, g44.out, g45.out, g40.out, g46.out, g47.out, fun _ => rfl, g16.out⟩
      · intro bf ac wv hfb haf hJ K' hK
        obtain ⟨n1, n2, v41, v42, v43, v44, v45, v40, v46, v47, v48, v14, v15, v16, rfl, hM, g41, g42, g43, g44, g45, g40, g46, g47, g48, g16⟩ := hJ
        replace hK := Lib.hid hK
        replace hM := Lib.hid hM
        replace g41 := Lib.hid g41
        replace g42 := Lib.hid g42
        replace g43 := Lib.hid g43
        replace g44 := Lib.hid g44
        replace g45 := Lib.hid g45
        replace g40 := Lib.hid g40
        replace g46 := Lib.hid g46
        replace g47 := Lib.hid g47
        replace g48 := Lib.hid g48
        replace g16 := Lib.hid g16
        obtain ⟨m2, hM2⟩ := hM.out.alloc1 hfb
        have hM2 := Lib.hid hM2
        clear hM
        go_simp
        exact hK.out _ _ ⟨_, m2, v41, v42, v43, v44, v45, v40, v46, v47, v48, _, v15, v16, rfl, hM2.out, g41.out, g42.out, g43.out, g44.out, g45.out, g40.out, g46.out, g47.out, g48.out, g16.out⟩
      · intro bf ac wv hfb haf hJ K' hK
        obtain ⟨n1, n2, v41, v42, v43, v44, v45, v40, v46, v47, v48, v14, v15, v16, rfl, hM, g41, g42, g43, g44, g45, g40, g46, g47, g48, g16⟩ := hJ
        replace hK := Lib.hid hK
        replace hM := Lib.hid hM
        replace g41 := Lib.hid g41
        replace g42 := Lib.hid g42
        replace g43 := Lib.hid g43
        replace g44 := Lib.hid g44
        replace g45 := Lib.hid g45
        replace g40 := Lib.hid g40
        replace g46 := Lib.hid g46
        replace g47 := Lib.hid g47
        replace g48 := Lib.hid g48
        replace g16 := Lib.hid g16
        obtain ⟨m1, hM2⟩ := hM.out.alloc2 hfb
        have hM2 := Lib.hid hM2
        clear hM
        go_simp
        exact hK.out _ _ ⟨m1, _, v41, v42, v43, v44, v45, v40, v46, v47, v48, v14, _, v16, rfl, hM2.out, g41.out, g42.out, g43.out, g44.out, g45.out, g40.out, g46.out, g47.out, g48.out, g16.out⟩
      · intro bf ac wv hfb haf hJ K' hK
        obtain ⟨n1, n2, v41, v42, v43, v44, v45, v40, v46, v47, v48, v14, v15, v16, rfl, hM, g41, g42, g43, g44, g45, g40, g46, g47, g48, g16⟩ := hJ
        replace hK := Lib.hid hK
        replace hM := Lib.hid hM
        replace g41 := Lib.hid g41
        replace g42 := Lib.hid g42
        replace g43 := Lib.hid g43
        replace g44 := Lib.hid g44
        replace g45 := Lib.hid g45
        replace g40 := Lib.hid g40
        replace g46 := Lib.hid g46
        replace g47 := Lib.hid g47
        replace g48 := Lib.hid g48
        replace g16 := Lib.hid g16
        simp [Region.binds] at haf
        have hb6 : bf 6 = true := by simp [haf]
        have hb9 : bf 9 = true := by simp [haf]
        obtain rfl := g46.out hb6
        obtain ⟨rfl, hZ⟩ := hM.out.zero1 hb9 hfb
        have hZ := Lib.hid hZ
        unfold ptr at hM hK ⊢
        have xZ0 := hZ.out.c 0 rfl
        have yZ0 := hZ.out.f 0 (by simp)
        have xZ1 := hZ.out.c 1 rfl
        have yZ1 := hZ.out.f 1 (by simp)
        have xZ2 := hZ.out.c 2 rfl
        have yZ2 := hZ.out.f 2 (by simp)
        have xZ3 := hZ.out.c 3 rfl
        have yZ3 := hZ.out.f 3 (by simp)
        have xZ4 := hZ.out.c 4 rfl
        have yZ4 := hZ.out.f 4 (by simp)
        have xZ5 := hZ.out.c 5 rfl
        have yZ5 := hZ.out.f 5 (by simp)
        have xZ6 := hZ.out.c 6 rfl
        have yZ6 := hZ.out.f 6 (by simp)
        have zZ := hZ.out.2.2
        go_simp
        have hM3 := hM.out; rw [hb9] at hM3
        have hM4 := hM3.store1 (Turned.all7 hZ.out)
        exact hK.out _ _ ⟨n1, n2, v41, v42, v43, v44, v45, v40, .agg #[.int .i64 code, .int .i64 b, .int .i64 q, .int .i64 p, .int .i64 0, .bool true, .bool false], v47, v48, .pointer (some ⟨n1, 0, none⟩), v15, v16, rfl, (by rw [show up bf 11 9 = true from hb9]; exact hM4), g41.out, g42.out, g43.out, g44.out, g45.out, g40.out, g46.out, g47.out, g48.out, g16.out⟩
      · intro bf ac wv hfb haf hJ K' hK
        obtain ⟨n1, n2, v41, v42, v43, v44, v45, v40, v46, v47, v48, v14, v15, v16, rfl, hM, g41, g42, g43, g44, g45, g40, g46, g47, g48, g16⟩ := hJ
        replace hK := Lib.hid hK
        replace hM := Lib.hid hM
        replace g41 := Lib.hid g41
        replace g42 := Lib.hid g42
        replace g43 := Lib.hid g43
        replace g44 := Lib.hid g44
        replace g45 := Lib.hid g45
        replace g40 := Lib.hid g40
        replace g46 := Lib.hid g46
        replace g47 := Lib.hid g47
        replace g48 := Lib.hid g48
        replace g16 := Lib.hid g16
        simp [Region.binds] at haf
        have hb7 : bf 7 = true := by simp [haf]
        have hb10 : bf 10 = true := by simp [haf]
        obtain rfl := g47.out hb7
        obtain ⟨rfl, hZ⟩ := hM.out.zero2 hb10 hfb
        have hZ := Lib.hid hZ
        unfold ptr at hM hK ⊢
        have xZ0 := hZ.out.c 0 rfl
        have yZ0 := hZ.out.f 0 (by simp)
        have xZ1 := hZ.out.c 1 rfl
        have yZ1 := hZ.out.f 1 (by simp)
        have xZ2 := hZ.out.c 2 rfl
        have yZ2 := hZ.out.f 2 (by simp)
        have zZ := hZ.out.2.2
        go_simp
        have hM3 := hM.out; rw [hb10] at hM3
        have hM4 := hM3.store2 (Turned.all3 hZ.out)
        exact hK.out _ _ ⟨n1, n2, v41, v42, v43, v44, v45, v40, v46, .agg #[.int .i64 2, .int .i64 q, .int .i64 r], v48, v14, .pointer (some ⟨n2, 0, none⟩), v16, rfl, (by rw [show up bf 12 10 = true from hb10]; exact hM4), g41.out, g42.out, g43.out, g44.out, g45.out, g40.out, g46.out, g47.out, g48.out, g16.out⟩
      · intro bf ac wv hfb haf hJ K' hK
        obtain ⟨n1, n2, v41, v42, v43, v44, v45, v40, v46, v47, v48, v14, v15, v16, rfl, hM, g41, g42, g43, g44, g45, g40, g46, g47, g48, g16⟩ := hJ
        replace hK := Lib.hid hK
        replace hM := Lib.hid hM
        replace g41 := Lib.hid g41
        replace g42 := Lib.hid g42
        replace g43 := Lib.hid g43
        replace g44 := Lib.hid g44
        replace g45 := Lib.hid g45
        replace g40 := Lib.hid g40
        replace g46 := Lib.hid g46
        replace g47 := Lib.hid g47
        replace g48 := Lib.hid g48
        replace g16 := Lib.hid g16
        simp [Region.binds] at haf
        have hb8 : bf 8 = true := by simp [haf]
        obtain rfl := g48.out hb8
        go_simp
        exact hK.out _ _ ⟨n1, n2, v41, v42, v43, v44, v45, v40, v46, v47, .int .i64 0, v14, v15, .int .i64 0, rfl, hM.out, g41.out, g42.out, g43.out, g44.out, g45.out, g40.out, g46.out, g47.out, g48.out, fun _ => rfl⟩
    · intro bf ac wv hall hJ
      obtain ⟨n1, n2, v41, v42, v43, v44, v45, v40, v46, v47, v48, v14, v15, v16, rfl, hM, g41, g42, g43, g44, g45, g40, g46, g47, g48, g16⟩ := hJ
      obtain rfl := g16 (hall 13 (by decide))
      rw [hall 9 (by decide), hall 10 (by decide), hall 11 (by decide), hall 12 (by decide)] at hM
      obtain ⟨rfl, h1⟩ := hM.c1 rfl
      obtain ⟨rfl, h2⟩ := hM.c2 rfl
      have hB := hM.below
      clear g41 g42 g43 g44 g45 g40 g46 g47 g48 g16 hM hall
      unfold ptr
      go_wp2
      go_meet
      exact ⟨n1, n2, rfl, rfl, rfl, Lib.hid h1, Lib.hid h2, hB⟩
  case rest =>
    obtain ⟨n1, n2, rfl, rfl, rfl, hJ, hH, hB⟩ := hcut
    have KD_8 := Lib.hid (KD_5.out.step hB)
    clear KD_5
    have KA_9 := Lib.hid (KA_6.out.step hB)
    clear KA_6
    have HB10 := Lib.hid (keep2 hB HB7.out)
    clear HB7 hB
    have xD0 : wc.cell? ⟨u2.heap.size, 0, none⟩ = some (.int .i64 code) := KD_8.out.c 0 rfl
    have xD1 : wc.cell? ⟨u2.heap.size, 1, none⟩ = some (.int .i64 a) := KD_8.out.c 1 rfl
    have xD2 : wc.cell? ⟨u2.heap.size, 2, none⟩ = some (.int .i64 p) := KD_8.out.c 2 rfl
    have xD3 : wc.cell? ⟨u2.heap.size, 3, none⟩ = some (.int .i64 0) := KD_8.out.c 3 rfl
    have xD4 : wc.cell? ⟨u2.heap.size, 4, none⟩ = some (.int .i64 0) := KD_8.out.c 4 rfl
    have xD5 : wc.cell? ⟨u2.heap.size, 5, none⟩ = some (.bool false) := KD_8.out.c 5 rfl
    have xD6 : wc.cell? ⟨u2.heap.size, 6, none⟩ = some (.bool false) := KD_8.out.c 6 rfl
    have zD : u2.heap.size < wc.heap.size := KD_8.out.2.2
    have z2D : u2.heap.size < wc.heap.size + 1 := by omega
    have xC0 : wc.cell? ⟨n2, 0, none⟩ = some (.int .i64 2) := hH.out.c 0 rfl
    have xC1 : wc.cell? ⟨n2, 1, none⟩ = some (.int .i64 q) := hH.out.c 1 rfl
    have xC2 : wc.cell? ⟨n2, 2, none⟩ = some (.int .i64 r) := hH.out.c 2 rfl
    have zC : n2 < wc.heap.size := hH.out.2.2
    have z2C : n2 < wc.heap.size + 1 := by omega
    go_wp2_with fail
    refine (recv_is code a p 0 0 false false 2 q r 1 _ _ _ hw2.out).mono ?_
    rintro e u3 ⟨rfl, b3⟩
    clear xD0 xD1 xD2 xD3 xD4 xD5 xD6 zD z2D xC0 xC1 xC2 zC z2C
    have KD_11 := Lib.hid (KD_8.out.step b3)
    clear KD_8
    have KA_12 := Lib.hid (KA_9.out.step b3)
    clear KA_9
    have KB_13 := Lib.hid (hJ.out.step b3)
    clear hJ
    have KC_14 := Lib.hid (hH.out.step b3)
    clear hH
    have HB15 := Lib.hid (keep2 b3 HB10.out)
    clear HB10 b3
    have KD_16 := Lib.hid (KD_11.out.alloc (.cells #[.int .i64 0, .int .i64 0, .int .i64 0, .int .i64 0, .int .i64 0, .bool false, .bool false] 23))
    clear KD_11
    have KA_17 := Lib.hid (KA_12.out.alloc (.cells #[.int .i64 0, .int .i64 0, .int .i64 0, .int .i64 0, .int .i64 0, .bool false, .bool false] 23))
    clear KA_12
    have KB_18 := Lib.hid (KB_13.out.alloc (.cells #[.int .i64 0, .int .i64 0, .int .i64 0, .int .i64 0, .int .i64 0, .bool false, .bool false] 23))
    clear KB_13
    have KC_19 := Lib.hid (KC_14.out.alloc (.cells #[.int .i64 0, .int .i64 0, .int .i64 0, .int .i64 0, .int .i64 0, .bool false, .bool false] 23))
    clear KC_14
    have HB20 : Hid (Below w.heap.size w (u3.alloc (.cells #[.int .i64 0, .int .i64 0, .int .i64 0, .int .i64 0, .int .i64 0, .bool false, .bool false] 23))) := HB15.out.alloc HB15.out.size _
    clear HB15
    have KD_21 := Lib.hid (KD_16.out.alloc (.cells #[.int .i64 0, .int .i64 0, .int .i64 0] 25))
    clear KD_16
    have KA_22 := Lib.hid (KA_17.out.alloc (.cells #[.int .i64 0, .int .i64 0, .int .i64 0] 25))
    clear KA_17
    have KB_23 := Lib.hid (KB_18.out.alloc (.cells #[.int .i64 0, .int .i64 0, .int .i64 0] 25))
    clear KB_18
    have KC_24 := Lib.hid (KC_19.out.alloc (.cells #[.int .i64 0, .int .i64 0, .int .i64 0] 25))
    clear KC_19
    have HB25 : Hid (Below w.heap.size w ((u3.alloc (.cells #[.int .i64 0, .int .i64 0, .int .i64 0, .int .i64 0, .int .i64 0, .bool false, .bool false] 23)).alloc (.cells #[.int .i64 0, .int .i64 0, .int .i64 0] 25))) := HB20.out.alloc HB20.out.size _
    clear HB20
    go_wp2
    go_ret
    exact ⟨rfl, HB25.out⟩
end Go.Proofs.Ytoggmladiakblaa
