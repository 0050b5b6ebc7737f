/- The walk of JoinChanged: another number. -/
import Derived.Test.YtoggmladiakblaaJw
namespace Go.Proofs.Ytoggmladiakblaa
open Go.RowKit

set_option maxRecDepth 100000 in
set_option maxHeartbeats 4000000 in
theorem chg_dd_bad (code a b proof pub p q r t K : Int) (w : World) (hp : pw 7 a = p) (hq : pw 7 b = q) (hw1 : RW code b q 0 0 true false 1 p 0 0 (jc code b q p 0 true false) (hc3 2 q r)) (hw2 : RW code a p 0 0 false false 2 q r 0 (jc code a p q K false true) (hc3 3 0 t)) (hr : proof ≠ r) (hw3 : RW code a p 0 0 false false 2 q proof 17 zj zh) (ht : proof ≠ t) (hw4 : RW code b q p 0 true false 3 0 proof 17 zj zh) (hb : accB pub = true) (hu : pub ≠ q) (hw5 : RW code a p 0 0 false false 2 pub r 17 zj zh) : Calls Try.prog 6 #[.int .i64 code, .int .i64 a, .int .i64 b, .int .i64 proof, .int .i64 pub] w fun e w' => e = .returned (.bool true) ∧ Below w.heap.size w w' := by
  have hr1 : (proof == r) = false := by simpa using hr
  have hr2 : (proof != r) = true := by simpa using hr
  have hr3 : decide (proof = r) = false := by simpa using hr
  replace hr := Lib.hid hr
  have ht1 : (proof == t) = false := by simpa using ht
  have ht2 : (proof != t) = true := by simpa using ht
  have ht3 : decide (proof = t) = false := by simpa using ht
  replace ht := Lib.hid ht
  have hu1 : (pub == q) = false := by simpa using hu
  have hu2 : (pub != q) = true := by simpa using hu
  have hu3 : decide (pub = q) = false := by simpa using hu
  replace hu := Lib.hid hu
  replace hp := Lib.hid hp
  replace hq := Lib.hid hq
  replace hw1 := Lib.hid hw1
  replace hw2 := Lib.hid hw2
  replace hb := Lib.hid hb
  replace hw5 := Lib.hid hw5
  replace hw3 := Lib.hid hw3
  replace hw4 := Lib.hid hw4
  have HB0 := Lib.hid (Below.refl w.heap.size w)
  go_enter Try.func6, Try.ntmps6
  go_wp2_with fail
  refine (head_any _).mono ?_
  rintro e u1 ⟨rfl, b1⟩
  have HB1 := Lib.hid (keep2 b1 HB0.out)
  clear HB0 b1
  go_wp2_with fail
  refine (device_is code a p _ hp.out).mono ?_
  rintro e u2 ⟨rfl, b2⟩
  have HB2 := Lib.hid (keep2 b2 HB1.out)
  clear HB1 b2
  have KD_3 := Lib.hid (Cs.new u2 (u2.heap.size) #[.int .i64 code, .int .i64 a, .int .i64 p, .int .i64 0, .int .i64 0, .bool false, .bool false] 23 (by simp))
  have HB4 : Hid (Below w.heap.size w (u2.alloc (.cells #[.int .i64 code, .int .i64 a, .int .i64 p, .int .i64 0, .int .i64 0, .bool false, .bool false] 23))) := HB2.out.alloc HB2.out.size _
  clear HB2
  have KD_5 := Lib.hid (KD_3.out.alloc (.cells #[.int .i64 1, .int .i64 p, .int .i64 0] 25))
  clear KD_3
  have KA_6 := Lib.hid (Cs.new (u2.alloc (.cells #[.int .i64 code, .int .i64 a, .int .i64 p, .int .i64 0, .int .i64 0, .bool false, .bool false] 23)) (u2.heap.size + 1) #[.int .i64 1, .int .i64 p, .int .i64 0] 25 (by simp))
  have HB7 : Hid (Below w.heap.size w ((u2.alloc (.cells #[.int .i64 code, .int .i64 a, .int .i64 p, .int .i64 0, .int .i64 0, .bool false, .bool false] 23)).alloc (.cells #[.int .i64 1, .int .i64 p, .int .i64 0] 25))) := HB4.out.alloc HB4.out.size _
  clear HB4
  go_upto_region 3 with fail
  obtain ⟨wq, hwq⟩ : ∃ wq, ((u2.alloc (.cells #[.int .i64 code, .int .i64 a, .int .i64 p, .int .i64 0, .int .i64 0, .bool false, .bool false] 23)).alloc (.cells #[.int .i64 1, .int .i64 p, .int .i64 0] 25)) = wq := ⟨_, rfl⟩
  rw [hwq] at KD_5
  rw [hwq] at KA_6
  rw [hwq] at HB7 ⊢
  clear hwq
  go_cut [14, 15, 16] from 40 to 48 (fun pc qc rc wc => ∃ n1 n2 : Nat, pc = .pointer (some ⟨n1, 0, none⟩) ∧ qc = .pointer (some ⟨n2, 0, none⟩) ∧ rc = .int .i64 0 ∧ Hid (Cs wc n1 #[.int .i64 code, .int .i64 b, .int .i64 q, .int .i64 p, .int .i64 0, .bool true, .bool false]) ∧ Hid (Cs wc n2 #[.int .i64 2, .int .i64 q, .int .i64 r]) ∧ Below wq.heap.size wq wc)
  case first =>
    refine region_inv (fun bf ac wv => ∃ (n1 n2 : Nat) (v41 v42 v43 v44 v45 v40 v46 v47 v48 v14 v15 v16 : Value), ac = { tmps := #[.int .i64 code, .int .i64 a, .int .i64 b, .int .i64 proof, .int .i64 pub, undef, undef, undef, undef, undef, .bool false, .bool true, .pointer (some ⟨u2.heap.size, 0, none⟩), .pointer (some ⟨u2.heap.size + 1, 0, none⟩), v14, v15, v16, undef, undef, undef, undef, undef, undef, undef, undef, undef, undef, undef, undef, undef, undef, undef, undef, .bool true, .tuple #[.agg #[.int .i64 code, .int .i64 a, .int .i64 p, .int .i64 0, .int .i64 0, .bool false, .bool false], .agg #[.int .i64 1, .int .i64 p, .int .i64 0]], .int .i64 code, .int .i64 a, .tuple #[.agg #[.int .i64 code, .int .i64 a, .int .i64 p, .int .i64 0, .int .i64 0, .bool false, .bool false], .agg #[.int .i64 1, .int .i64 p, .int .i64 0]], .agg #[.int .i64 code, .int .i64 a, .int .i64 p, .int .i64 0, .int .i64 0, .bool false, .bool false], .agg #[.int .i64 1, .int .i64 p, .int .i64 0], v40, v41, v42, v43, v44, v45, v46, v47, v48, undef, undef, undef, undef, undef, undef, undef, undef, undef, undef, undef, undef, undef, undef, undef, undef, undef, undef, undef, undef, undef, undef, undef, undef, undef, undef, undef, undef, undef, undef, undef, undef, undef, undef, undef, undef, undef, undef, undef, undef, undef, undef, undef, undef, undef, undef, undef, undef, undef, undef, undef, undef, undef, undef, undef, undef, undef, undef, undef, undef, undef, undef, undef, undef, undef, undef, undef, undef, undef, undef, undef, undef, undef, undef, undef, undef, undef, undef, undef, undef, undef, undef, undef, undef, undef, undef, undef, undef, undef, undef, undef], defers := [] } ∧ Mem wq wv n1 n2 v14 v15 (bf 9) (bf 11) (bf 10) (bf 12) #[.int .i64 code, .int .i64 b, .int .i64 q, .int .i64 p, .int .i64 0, .bool true, .bool false] #[.int .i64 2, .int .i64 q, .int .i64 r] ∧ (bf 0 = true → v41 = .int .i64 code) ∧ (bf 1 = true → v42 = .int .i64 b) ∧ (bf 2 = true → v43 = .agg #[.int .i64 code, .int .i64 b, .int .i64 q, .int .i64 0, .int .i64 0, .bool true, .bool false]) ∧ (bf 3 = true → v44 = .agg #[.int .i64 1, .int .i64 p, .int .i64 0]) ∧ (bf 4 = true → v45 = .tuple #[.agg #[.int .i64 code, .int .i64 b, .int .i64 q, .int .i64 p, .int .i64 0, .bool true, .bool false], .agg #[.int .i64 2, .int .i64 q, .int .i64 r], .int .i64 0]) ∧ (bf 5 = true → v40 = .tuple #[.agg #[.int .i64 code, .int .i64 b, .int .i64 q, .int .i64 p, .int .i64 0, .bool true, .bool false], .agg #[.int .i64 2, .int .i64 q, .int .i64 r], .int .i64 0]) ∧ (bf 6 = true → v46 = .agg #[.int .i64 code, .int .i64 b, .int .i64 q, .int .i64 p, .int .i64 0, .bool true, .bool false]) ∧ (bf 7 = true → v47 = .agg #[.int .i64 2, .int .i64 q, .int .i64 r]) ∧ (bf 8 = true → v48 = .int .i64 0) ∧ (bf 13 = true → v16 = .int .i64 0)) (by kernel_rfl) (by decide +kernel) ?_ ?_ ?_
    · exact ⟨_, _, _, _, _, _, _, _, _, _, _, _, _, _, rfl, Mem.start _ _ _ _ _, (by simp), (by simp), (by simp), (by simp), (by simp), (by simp), (by simp), (by simp), (by simp), (by simp)⟩
    · refine ⟨?_, ?_, ?_, ?_, ?_, ?_, ?_, ?_, ?_, ?_, ?_, ?_, ?_, ?_, trivial⟩
      · intro bf ac wv hfb haf hJ K' hK
        obtain ⟨n1, n2, v41, v42, v43, v44, v45, v40, v46, v47, v48, v14, v15, v16, rfl, hM, g41, g42, g43, g44, g45, g40, g46, g47, g48, g16⟩ := hJ
        replace hK := Lib.hid hK
        replace hM := Lib.hid hM
        replace g41 := Lib.hid g41
        replace g42 := Lib.hid g42
        replace g43 := Lib.hid g43
        replace g44 := Lib.hid g44
        replace g45 := Lib.hid g45
        replace g40 := Lib.hid g40
        replace g46 := Lib.hid g46
        replace g47 := Lib.hid g47
        replace g48 := Lib.hid g48
        replace g16 := Lib.hid g16
        go_simp
        exact hK.out _ _ ⟨n1, n2, .int .i64 code, v42, v43, v44, v45, v40, v46, v47, v48, v14, v15, v16, rfl, hM.out, fun _ => rfl, g42.out, g43.out, g44.out, g45.out, g40.out, g46.out, g47.out, g48.out, g16.out⟩
      · intro bf ac wv hfb haf hJ K' hK
        obtain ⟨n1, n2, v41, v42, v43, v44, v45, v40, v46, v47, v48, v14, v15, v16, rfl, hM, g41, g42, g43, g44, g45, g40, g46, g47, g48, g16⟩ := hJ
        replace hK := Lib.hid hK
        replace hM := Lib.hid hM
        replace g41 := Lib.hid g41
        replace g42 := Lib.hid g42
        replace g43 := Lib.hid g43
        replace g44 := Lib.hid g44
        replace g45 := Lib.hid g45
        replace g40 := Lib.hid g40
        replace g46 := Lib.hid g46
        replace g47 := Lib.hid g47
        replace g48 := Lib.hid g48
        replace g16 := Lib.hid g16
        go_simp
        exact hK.out _ _ ⟨n1, n2, v41, .int .i64 b, v43, v44, v45, v40, v46, v47, v48, v14, v15, v16, rfl, hM.out, g41.out, fun _ => rfl, g43.out, g44.out, g45.out, g40.out, g46.out, g47.out, g48.out, g16.out⟩
      · intro bf ac wv hfb haf hJ K' hK
        obtain ⟨n1, n2, v41, v42, v43, v44, v45, v40, v46, v47, v48, v14, v15, v16, rfl, hM, g41, g42, g43, g44, g45, g40, g46, g47, g48, g16⟩ := hJ
        replace hK := Lib.hid hK
        replace hM := Lib.hid hM
        replace g41 := Lib.hid g41
        replace g42 := Lib.hid g42
        replace g43 := Lib.hid g43
        replace g44 := Lib.hid g44
        replace g45 := Lib.hid g45
        replace g40 := Lib.hid g40
        replace g46 := Lib.hid g46
        replace g47 := Lib.hid g47
        replace g48 := Lib.hid g48
        replace g16 := Lib.hid g16
        simp [Region.binds] at haf
        have hb0 : bf 0 = true := by simp [haf]
        have hb1 : bf 1 = true := by simp [haf]
        obtain rfl := g41.out hb0
        obtain rfl := g42.out hb1
        go_simp
        go_at_call 14
        refine (hub_is code b q _ hq.out).mono ?_
        rintro e w4 ⟨rfl, b4⟩
        exact hK.out _ _ ⟨n1, n2, .int .i64 code, .int .i64 b, .agg #[.int .i64 code, .int .i64 b, .int .i64 q, .int .i64 0, .int .i64 0, .bool true, .bool false], v44, v45, v40, v46, v47, v48, v14, v15, v16, rfl, hM.out.step b4, g41.out, g42.out, fun _ => rfl, g44.out, g45.out, g40.out, g46.out, g47.out, g48.out, g16.out⟩
      · intro bf ac wv hfb haf hJ K' hK
        obtain ⟨n1, n2, v41, v42, v43, v44, v45, v40, v46, v47, v48, v14, v15, v16, rfl, hM, g41, g42, g43, g44, g45, g40, g46, g47, g48, g16⟩ := hJ
        replace hK := Lib.hid hK
        replace hM := Lib.hid hM
        replace g41 := Lib.hid g41
        replace g42 := Lib.hid g42
        replace g43 := Lib.hid g43
        replace g44 := Lib.hid g44
        replace g45 := Lib.hid g45
        replace g40 := Lib.hid g40
        replace g46 := Lib.hid g46
        replace g47 := Lib.hid g47
        replace g48 := Lib.hid g48
        replace g16 := Lib.hid g16
        have hA := KA_6.out.step hM.out.below
        have xA0 := hA.c 0 rfl
        have xA1 := hA.c 1 rfl
        have xA2 := hA.c 2 rfl
        have zA := hA.2.2
        clear hA
        go_simp
        exact hK.out _ _ ⟨n1, n2, v41, v42, v43, .agg #[.int .i64 1, .int .i64 p, .int .i64 0], v45, v40, v46, v47, v48, v14, v15, v16, rfl, hM.out, g41.out, g42.out, g43.out, fun _ => rfl, g45.out, g40.out, g46.out, g47.out, g48.out, g16.out⟩
      · intro bf ac wv hfb haf hJ K' hK
        obtain ⟨n1, n2, v41, v42, v43, v44, v45, v40, v46, v47, v48, v14, v15, v16, rfl, hM, g41, g42, g43, g44, g45, g40, g46, g47, g48, g16⟩ := hJ
        replace hK := Lib.hid hK
        replace hM := Lib.hid hM
        replace g41 := Lib.hid g41
        replace g42 := Lib.hid g42
        replace g43 := Lib.hid g43
        replace g44 := Lib.hid g44
        replace g45 := Lib.hid g45
        replace g40 := Lib.hid g40
        replace g46 := Lib.hid g46
        replace g47 := Lib.hid g47
        replace g48 := Lib.hid g48
        replace g16 := Lib.hid g16
        simp [Region.binds] at haf
        have hb2 : bf 2 = true := by simp [haf]
        have hb3 : bf 3 = true := by simp [haf]
        obtain rfl := g43.out hb2
        obtain rfl := g44.out hb3
        go_simp
        go_at_call 12
        refine (recv_is code b q 0 0 true false 1 p 0 0 _ _ _ hw1.out).mono ?_
        rintro e w5 ⟨rfl, b5⟩
        exact hK.out _ _ ⟨n1, n2, v41, v42, .agg #[.int .i64 code, .int .i64 b, .int .i64 q, .int .i64 0, .int .i64 0, .bool true, .bool false], .agg #[.int .i64 1, .int .i64 p, .int .i64 0], .tuple #[.agg #[.int .i64 code, .int .i64 b, .int .i64 q, .int .i64 p, .int .i64 0, .bool true, .bool false], .agg #[.int .i64 2, .int .i64 q, .int .i64 r], .int .i64 0], v40, v46, v47, v48, v14, v15, v16, rfl, hM.out.step b5, g41.out, g42.out, g43.out, g44.out, fun _ => rfl, g40.out, g46.out, g47.out, g48.out, g16.out⟩
      · intro bf ac wv hfb haf hJ K' hK
        obtain ⟨n1, n2, v41, v42, v43, v44, v45, v40, v46, v47, v48, v14, v15, v16, rfl, hM, g41, g42, g43, g44, g45, g40, g46, g47, g48, g16⟩ := hJ
        replace hK := Lib.hid hK
        replace hM := Lib.hid hM
        replace g41 := Lib.hid g41
        replace g42 := Lib.hid g42
        replace g43 := Lib.hid g43
        replace g44 := Lib.hid g44
        replace g45 := Lib.hid g45
        replace g40 := Lib.hid g40
        replace g46 := Lib.hid g46
        replace g47 := Lib.hid g47
        replace g48 := Lib.hid g48
        replace g16 := Lib.hid g16
        simp [Region.binds] at haf
        have hb4 : bf 4 = true := by simp [haf]
        obtain rfl := g45.out hb4
        go_simp
        exact hK.out _ _ ⟨n1, n2, v41, v42, v43, v44, .tuple #[.agg #[.int .i64 code, .int .i64 b, .int .i64 q, .int .i64 p, .int .i64 0, .bool true, .bool false], .agg #[.int .i64 2, .int .i64 q, .int .i64 r], .int .i64 0], .tuple #[.agg #[.int .i64 code, .int .i64 b, .int .i64 q, .int .i64 p, .int .i64 0, .bool true, .bool false], .agg #[.int .i64 2, .int .i64 q, .int .i64 r], .int .i64 0], v46, v47, v48, v14, v15, v16, rfl, hM.out, g41.out, g42.out, g43.out, g44.out, g45.out, fun _ => rfl, g46.out, g47.out, g48.out, g16.out⟩
      · intro bf ac wv hfb haf hJ K' hK
        obtain ⟨n1, n2, v41, v42, v43, v44, v45, v40, v46, v47, v48, v14, v15, v16, rfl, hM, g41, g42, g43, g44, g45, g40, g46, g47, g48, g16⟩ := hJ
        replace hK := Lib.hid hK
        replace hM := Lib.hid hM
        replace g41 := Lib.hid g41
        replace g42 := Lib.hid g42
        replace g43 := Lib.hid g43
        replace g44 := Lib.hid g44
        replace g45 := Lib.hid g45
        replace g40 := Lib.hid g40
        replace g46 := Lib.hid g46
        replace g47 := Lib.hid g47
        replace g48 := Lib.hid g48
        replace g16 := Lib.hid g16
        simp [Region.binds] at haf
        have hb5 : bf 5 = true := by simp [haf]
        obtain rfl := g40.out hb5
        go_simp
        exact hK.out _ _ ⟨n1, n2, v41, v42, v43, v44, v45, .tuple #[.agg #[.int .i64 code, .int .i64 b, .int .i64 q, .int .i64 p, .int .i64 0, .bool true, .bool false], .agg #[.int .i64 2, .int .i64 q, .int .i64 r], .int .i64 0], .agg #[.int .i64 code, .int .i64 b, .int .i64 q, .int .i64 p, .int .i64 0, .bool true, .bool false], v47, v48, v14, v15, v16, rfl, hM.out, g41.out, g42.out, g43.out, g44.out, g45.out, g40.out, fun _ => rfl, g47.out, g48.out, g16.out⟩
      · intro bf ac wv hfb haf hJ K' hK
        obtain ⟨n1, n2, v41, v42, v43, v44, v45, v40, v46, v47, v48, v14, v15, v16, rfl, hM, g41, g42, g43, g44, g45, g40, g46, g47, g48, g16⟩ := hJ
        replace hK := Lib.hid hK
        replace hM := Lib.hid hM
        replace g41 := Lib.hid g41
        replace g42 := Lib.hid g42
        replace g43 := Lib.hid g43
        replace g44 := Lib.hid g44
        replace g45 := Lib.hid g45
        replace g40 := Lib.hid g40
        replace g46 := Lib.hid g46
        replace g47 := Lib.hid g47
        replace g48 := Lib.hid g48
        replace g16 := Lib.hid g16
        simp [Region.binds] at haf
        have hb5 : bf 5 = true := by simp [haf]
        obtain rfl := g40.out hb5
        go_simp
        exact hK.out _ _ ⟨n1, n2, v41, v42, v43, v44, v45, .tuple #[.agg #[.int .i64 code, .int .i64 b, .int .i64 q, .int .i64 p, .int .i64 0, .bool true, .bool false], .agg #[.int .i64 2, .int .i64 q, .int .i64 r], .int .i64 0], v46, .agg #[.int .i64 2, .int .i64 q, .int .i64 r], v48, v14, v15, v16, rfl, hM.out, g41.out, g42.out, g43.out, g44.out, g45.out, g40.out, g46.out, fun _ => rfl, g48.out, g16.out⟩
      · intro bf ac wv hfb haf hJ K' hK
        obtain ⟨n1, n2, v41, v42, v43, v44, v45, v40, v46, v47, v48, v14, v15, v16, rfl, hM, g41, g42, g43, g44, g45, g40, g46, g47, g48, g16⟩ := hJ
        replace hK := Lib.hid hK
        replace hM := Lib.hid hM
        replace g41 := Lib.hid g41
        replace g42 := Lib.hid g42
        replace g43 := Lib.hid g43
        replace g44 := Lib.hid g44
        replace g45 := Lib.hid g45
        replace g40 := Lib.hid g40
        replace g46 := Lib.hid g46
        replace g47 := Lib.hid g47
        replace g48 := Lib.hid g48
        replace g16 := Lib.hid g16
        simp [Region.binds] at haf
        have hb5 : bf 5 = true := by simp [haf]
        obtain rfl := g40.out hb5
        go_simp
        exact hK.out _ _ ⟨n1, n2, v41, v42, v43, v44, v45, .tuple #[.agg #[.int .i64 code, .int .i64 b, .int .i64 q, .int .i64 p, .int .i64 0, .bool true, .bool false], .agg #[.int .i64 2, .int .i64 q, .int .i64 r], .int .i64 0], v46, v47, .int .i64 0, v14, v15, v16, rfl, hM.out, g41.out, g42.out, g43.out, g44.out, g45.out, g40.out, g46.out, g47.out, fun _ => rfl, g16.out⟩
      · intro bf ac wv hfb haf hJ K' hK
        obtain ⟨n1, n2, v41, v42, v43, v44, v45, v40, v46, v47, v48, v14, v15, v16, rfl, hM, g41, g42, g43, g44, g45, g40, g46, g47, g48, g16⟩ := hJ
        replace hK := Lib.hid hK
        replace hM := Lib.hid hM
        replace g41 := Lib.hid g41
        replace g42 := Lib.hid g42
        replace g43 := Lib.hid g43
        replace g44 := Lib.hid g44
        replace g45 := Lib.hid g45
        replace g40 := Lib.hid g40
        replace g46 := Lib.hid g46
        replace g47 := Lib.hid g47
        replace g48 := Lib.hid g48
        replace g16 := Lib.hid g16
        obtain ⟨m2, hM2⟩ := hM.out.alloc1 hfb
        have hM2 := Lib.hid hM2
        clear hM
        go_simp
        exact hK.out _ _ ⟨_, m2, v41, v42, v43, v44, v45, v40, v46, v47, v48, _, v15, v16, rfl, hM2.out, g41.out, g42.out, g43.out, g44.out, g45.out, g40.out, g46.out, g47.out, g48.out, g16.out⟩
      · intro bf ac wv hfb haf hJ K' hK
        obtain ⟨n1, n2, v41, v42, v43, v44, v45, v40, v46, v47, v48, v14, v15, v16, rfl, hM, g41, g42, g43, g44, g45, g40, g46, g47, g48, g16⟩ := hJ
        replace hK := Lib.hid hK
        replace hM := Lib.hid hM
        replace g41 := Lib.hid g41
        replace g42 := Lib.hid g42
        replace g43 := Lib.hid g43
        replace g44 := Lib.hid g44
        replace g45 := Lib.hid g45
        replace g40 := Lib.hid g40
        replace g46 := Lib.hid g46
        replace g47 := Lib.hid g47
        replace g48 := Lib.hid g48
        replace g16 := Lib.hid g16
        obtain ⟨m1, hM2⟩ := hM.out.alloc2 hfb
        have hM2 := Lib.hid hM2
        clear hM
        go_simp
        exact hK.out _ _ ⟨m1, _, v41, v42, v43, v44, v45, v40, v46, v47, v48, v14, _, v16, rfl, hM2.out, g41.out, g42.out, g43.out, g44.out, g45.out, g40.out, g46.out, g47.out, g48.out, g16.out⟩
      · intro bf ac wv hfb haf hJ K' hK
        obtain ⟨n1, n2, v41, v42, v43, v44, v45, v40, v46, v47, v48, v14, v15, v16, rfl, hM, g41, g42, g43, g44, g45, g40, g46, g47, g48, g16⟩ := hJ
        replace hK := Lib.hid hK
        replace hM := Lib.hid hM
        replace g41 := Lib.hid g41
        replace g42 := Lib.hid g42
        replace g43 := Lib.hid g43
        replace g44 := Lib.hid g44
        replace g45 := Lib.hid g45
        replace g40 := Lib.hid g40
        replace g46 := Lib.hid g46
        replace g47 := Lib.hid g47
        replace g48 := Lib.hid g48
        replace g16 := Lib.hid g16
        simp [Region.binds] at haf
        have hb6 : bf 6 = true := by simp [haf]
        have hb9 : bf 9 = true := by simp [haf]
        obtain rfl := g46.out hb6
        obtain ⟨rfl, hZ⟩ := hM.out.zero1 hb9 hfb
        have hZ := Lib.hid hZ
        unfold ptr at hM hK ⊢
        have xZ0 := hZ.out.c 0 rfl
        have yZ0 := hZ.out.f 0 (by simp)
        have xZ1 := hZ.out.c 1 rfl
        have yZ1 := hZ.out.f 1 (by simp)
        have xZ2 := hZ.out.c 2 rfl
        have yZ2 := hZ.out.f 2 (by simp)
        have xZ3 := hZ.out.c 3 rfl
        have yZ3 := hZ.out.f 3 (by simp)
        have xZ4 := hZ.out.c 4 rfl
        have yZ4 := hZ.out.f 4 (by simp)
        have xZ5 := hZ.out.c 5 rfl
        have yZ5 := hZ.out.f 5 (by simp)
        have xZ6 := hZ.out.c 6 rfl
        have yZ6 := hZ.out.f 6 (by simp)
        have zZ := hZ.out.2.2
        go_simp
        have hM3 := hM.out; rw [hb9] at hM3
        have hM4 := hM3.store1 (Turned.all7 hZ.out)
        exact hK.out _ _ ⟨n1, n2, v41, v42, v43, v44, v45, v40, .agg #[.int .i64 code, .int .i64 b, .int .i64 q, .int .i64 p, .int .i64 0, .bool true, .bool false], v47, v48, .pointer (some ⟨n1, 0, none⟩), v15, v16, rfl, (by rw [show up bf 11 9 = true from hb9]; exact hM4), g41.out, g42.out, g43.out, g44.out, g45.out, g40.out, g46.out, g47.out, g48.out, g16.out⟩
      · intro bf ac wv hfb haf hJ K' hK
        obtain ⟨n1, n2, v41, v42, v43, v44, v45, v40, v46, v47, v48, v14, v15, v16, rfl, hM, g41, g42, g43, g44, g45, g40, g46, g47, g48, g16⟩ := hJ
        replace hK := Lib.hid hK
        replace hM := Lib.hid hM
        replace g41 := Lib.hid g41
        replace g42 := Lib.hid g42
        replace g43 := Lib.hid g43
        replace g44 := Lib.hid g44
        replace g45 := Lib.hid g45
        replace g40 := Lib.hid g40
        replace g46 := Lib.hid g46
        replace g47 := Lib.hid g47
        replace g48 := Lib.hid g48
        replace g16 := Lib.hid g16
        simp [Region.binds] at haf
        have hb7 : bf 7 = true := by simp [haf]
        have hb10 : bf 10 = true := by simp [haf]
        obtain rfl := g47.out hb7
        obtain ⟨rfl, hZ⟩ := hM.out.zero2 hb10 hfb
        have hZ := Lib.hid hZ
        unfold ptr at hM hK ⊢
        have xZ0 := hZ.out.c 0 rfl
        have yZ0 := hZ.out.f 0 (by simp)
        have xZ1 := hZ.out.c 1 rfl
        have yZ1 := hZ.out.f 1 (by simp)
        have xZ2 := hZ.out.c 2 rfl
        have yZ2 := hZ.out.f 2 (by simp)
        have zZ := hZ.out.2.2
        go_simp
        have hM3 := hM.out; rw [hb10] at hM3
        have hM4 := hM3.store2 (Turned.all3 hZ.out)
        exact hK.out _ _ ⟨n1, n2, v41, v42, v43, v44, v45, v40, v46, .agg #[.int .i64 2, .int .i64 q, .int .i64 r], v48, v14, .pointer (some ⟨n2, 0, none⟩), v16, rfl, (by rw [show up bf 12 10 = true from hb10]; exact hM4), g41.out, g42.out, g43.out, g44.out, g45.out, g40.out, g46.out, g47.out, g48.out, g16.out⟩
      · intro bf ac wv hfb haf hJ K' hK
        obtain ⟨n1, n2, v41, v42, v43, v44, v45, v40, v46, v47, v48, v14, v15, v16, rfl, hM, g41, g42, g43, g44, g45, g40, g46, g47, g48, g16⟩ := hJ
        replace hK := Lib.hid hK
        replace hM := Lib.hid hM
        replace g41 := Lib.hid g41
        replace g42 := Lib.hid g42
        replace g43 := Lib.hid g43
        replace g44 := Lib.hid g44
        replace g45 := Lib.hid g45
        replace g40 := Lib.hid g40
        replace g46 := Lib.hid g46
        replace g47 := Lib.hid g47
        replace g48 := Lib.hid g48
        replace g16 := Lib.hid g16
        simp [Region.binds] at haf
        have hb8 : bf 8 = true := by simp [haf]
        obtain rfl := g48.out hb8
        go_simp
        exact hK.out _ _ ⟨n1, n2, v41, v42, v43, v44, v45, v40, v46, v47, .int .i64 0, v14, v15, .int .i64 0, rfl, hM.out, g41.out, g42.out, g43.out, g44.out, g45.out, g40.out, g46.out, g47.out, g48.out, fun _ => rfl⟩
    · intro bf ac wv hall hJ
      obtain ⟨n1, n2, v41, v42, v43, v44, v45, v40, v46, v47, v48, v14, v15, v16, rfl, hM, g41, g42, g43, g44, g45, g40, g46, g47, g48, g16⟩ := hJ
      obtain rfl := g16 (hall 13 (by decide))
      rw [hall 9 (by decide), hall 10 (by decide), hall 11 (by decide), hall 12 (by decide)] at hM
      obtain ⟨rfl, h1⟩ := hM.c1 rfl
      obtain ⟨rfl, h2⟩ := hM.c2 rfl
      have hB := hM.below
      clear g41 g42 g43 g44 g45 g40 g46 g47 g48 g16 hM hall
      unfold ptr
      go_wp2
      go_meet
      exact ⟨n1, n2, rfl, rfl, rfl, Lib.hid h1, Lib.hid h2, hB⟩
  case rest =>
    obtain ⟨n1, n2, rfl, rfl, rfl, hJ, hH, hB⟩ := hcut
    have KD_8 := Lib.hid (KD_5.out.step hB)
    clear KD_5
    have KA_9 := Lib.hid (KA_6.out.step hB)
    clear KA_6
    have HB10 := Lib.hid (keep2 hB HB7.out)
    clear HB7 hB
    have xD0 : wc.cell? ⟨u2.heap.size, 0, none⟩ = some (.int .i64 code) := KD_8.out.c 0 rfl
    have xD1 : wc.cell? ⟨u2.heap.size, 1, none⟩ = some (.int .i64 a) := KD_8.out.c 1 rfl
    have xD2 : wc.cell? ⟨u2.heap.size, 2, none⟩ = some (.int .i64 p) := KD_8.out.c 2 rfl
    have xD3 : wc.cell? ⟨u2.heap.size, 3, none⟩ = some (.int .i64 0) := KD_8.out.c 3 rfl
    have xD4 : wc.cell? ⟨u2.heap.size, 4, none⟩ = some (.int .i64 0) := KD_8.out.c 4 rfl
    have xD5 : wc.cell? ⟨u2.heap.size, 5, none⟩ = some (.bool false) := KD_8.out.c 5 rfl
    have xD6 : wc.cell? ⟨u2.heap.size, 6, none⟩ = some (.bool false) := KD_8.out.c 6 rfl
    have zD : u2.heap.size < wc.heap.size := KD_8.out.2.2
    have z2D : u2.heap.size < wc.heap.size + 1 := by omega
    have xC0 : wc.cell? ⟨n2, 0, none⟩ = some (.int .i64 2) := hH.out.c 0 rfl
    have xC1 : wc.cell? ⟨n2, 1, none⟩ = some (.int .i64 q) := hH.out.c 1 rfl
    have xC2 : wc.cell? ⟨n2, 2, none⟩ = some (.int .i64 r) := hH.out.c 2 rfl
    have zC : n2 < wc.heap.size := hH.out.2.2
    have z2C : n2 < wc.heap.size + 1 := by omega
    go_wp2_with fail
    refine (recv_is code a p 0 0 false false 2 q r 0 _ _ _ hw2.out).mono ?_
    rintro e u3 ⟨rfl, b3⟩
    clear xD0 xD1 xD2 xD3 xD4 xD5 xD6 zD z2D xC0 xC1 xC2 zC z2C
    have KD_11 := Lib.hid (KD_8.out.step b3)
    clear KD_8
    have KA_12 := Lib.hid (KA_9.out.step b3)
    clear KA_9
    have KB_13 := Lib.hid (hJ.out.step b3)
    clear hJ
    have KC_14 := Lib.hid (hH.out.step b3)
    clear hH
    have HB15 := Lib.hid (keep2 b3 HB10.out)
    clear HB10 b3
    have KD_16 := Lib.hid (KD_11.out.alloc (.cells #[.int .i64 code, .int .i64 a, .int .i64 p, .int .i64 q, .int .i64 K, .bool false, .bool true] 23))
    clear KD_11
    have KA_17 := Lib.hid (KA_12.out.alloc (.cells #[.int .i64 code, .int .i64 a, .int .i64 p, .int .i64 q, .int .i64 K, .bool false, .bool true] 23))
    clear KA_12
    have KB_18 := Lib.hid (KB_13.out.alloc (.cells #[.int .i64 code, .int .i64 a, .int .i64 p, .int .i64 q, .int .i64 K, .bool false, .bool true] 23))
    clear KB_13
    have KC_19 := Lib.hid (KC_14.out.alloc (.cells #[.int .i64 code, .int .i64 a, .int .i64 p, .int .i64 q, .int .i64 K, .bool false, .bool true] 23))
    clear KC_14
    have KE_20 := Lib.hid (Cs.new u3 (u3.heap.size) #[.int .i64 code, .int .i64 a, .int .i64 p, .int .i64 q, .int .i64 K, .bool false, .bool true] 23 (by simp))
    have HB21 : Hid (Below w.heap.size w (u3.alloc (.cells #[.int .i64 code, .int .i64 a, .int .i64 p, .int .i64 q, .int .i64 K, .bool false, .bool true] 23))) := HB15.out.alloc HB15.out.size _
    clear HB15
    have KD_22 := Lib.hid (KD_16.out.alloc (.cells #[.int .i64 3, .int .i64 0, .int .i64 t] 25))
    clear KD_16
    have KA_23 := Lib.hid (KA_17.out.alloc (.cells #[.int .i64 3, .int .i64 0, .int .i64 t] 25))
    clear KA_17
    have KB_24 := Lib.hid (KB_18.out.alloc (.cells #[.int .i64 3, .int .i64 0, .int .i64 t] 25))
    clear KB_18
    have KC_25 := Lib.hid (KC_19.out.alloc (.cells #[.int .i64 3, .int .i64 0, .int .i64 t] 25))
    clear KC_19
    have KE_26 := Lib.hid (KE_20.out.alloc (.cells #[.int .i64 3, .int .i64 0, .int .i64 t] 25))
    clear KE_20
    have KF_27 := Lib.hid (Cs.new (u3.alloc (.cells #[.int .i64 code, .int .i64 a, .int .i64 p, .int .i64 q, .int .i64 K, .bool false, .bool true] 23)) (u3.heap.size + 1) #[.int .i64 3, .int .i64 0, .int .i64 t] 25 (by simp))
    have HB28 : Hid (Below w.heap.size w ((u3.alloc (.cells #[.int .i64 code, .int .i64 a, .int .i64 p, .int .i64 q, .int .i64 K, .bool false, .bool true] 23)).alloc (.cells #[.int .i64 3, .int .i64 0, .int .i64 t] 25))) := HB21.out.alloc HB21.out.size _
    clear HB21
    have xC0 : ((u3.alloc (.cells #[.int .i64 code, .int .i64 a, .int .i64 p, .int .i64 q, .int .i64 K, .bool false, .bool true] 23)).alloc (.cells #[.int .i64 3, .int .i64 0, .int .i64 t] 25)).cell? ⟨n2, 0, none⟩ = some (.int .i64 2) := KC_25.out.c 0 rfl
    have xC1 : ((u3.alloc (.cells #[.int .i64 code, .int .i64 a, .int .i64 p, .int .i64 q, .int .i64 K, .bool false, .bool true] 23)).alloc (.cells #[.int .i64 3, .int .i64 0, .int .i64 t] 25)).cell? ⟨n2, 1, none⟩ = some (.int .i64 q) := KC_25.out.c 1 rfl
    have xC2 : ((u3.alloc (.cells #[.int .i64 code, .int .i64 a, .int .i64 p, .int .i64 q, .int .i64 K, .bool false, .bool true] 23)).alloc (.cells #[.int .i64 3, .int .i64 0, .int .i64 t] 25)).cell? ⟨n2, 2, none⟩ = some (.int .i64 r) := KC_25.out.c 2 rfl
    have zC : n2 < ((u3.alloc (.cells #[.int .i64 code, .int .i64 a, .int .i64 p, .int .i64 q, .int .i64 K, .bool false, .bool true] 23)).alloc (.cells #[.int .i64 3, .int .i64 0, .int .i64 t] 25)).heap.size := KC_25.out.2.2
    have z2C : n2 < ((u3.alloc (.cells #[.int .i64 code, .int .i64 a, .int .i64 p, .int .i64 q, .int .i64 K, .bool false, .bool true] 23)).alloc (.cells #[.int .i64 3, .int .i64 0, .int .i64 t] 25)).heap.size + 1 := by omega
    go_upto_region 10 with fail
    clear xC0 xC1 xC2 zC z2C
    have KD_29 := Lib.hid (KD_22.out.alloc (.cells #[.int .i64 2, .int .i64 q, .int .i64 proof] 25))
    clear KD_22
    have KA_30 := Lib.hid (KA_23.out.alloc (.cells #[.int .i64 2, .int .i64 q, .int .i64 proof] 25))
    clear KA_23
    have KB_31 := Lib.hid (KB_24.out.alloc (.cells #[.int .i64 2, .int .i64 q, .int .i64 proof] 25))
    clear KB_24
    have KC_32 := Lib.hid (KC_25.out.alloc (.cells #[.int .i64 2, .int .i64 q, .int .i64 proof] 25))
    clear KC_25
    have KE_33 := Lib.hid (KE_26.out.alloc (.cells #[.int .i64 2, .int .i64 q, .int .i64 proof] 25))
    clear KE_26
    have KF_34 := Lib.hid (KF_27.out.alloc (.cells #[.int .i64 2, .int .i64 q, .int .i64 proof] 25))
    clear KF_27
    have KX_35 := Lib.hid (Cs.new ((u3.alloc (.cells #[.int .i64 code, .int .i64 a, .int .i64 p, .int .i64 q, .int .i64 K, .bool false, .bool true] 23)).alloc (.cells #[.int .i64 3, .int .i64 0, .int .i64 t] 25)) (u3.heap.size + 1 + 1) #[.int .i64 2, .int .i64 q, .int .i64 proof] 25 (by simp))
    have HB36 : Hid (Below w.heap.size w (((u3.alloc (.cells #[.int .i64 code, .int .i64 a, .int .i64 p, .int .i64 q, .int .i64 K, .bool false, .bool true] 23)).alloc (.cells #[.int .i64 3, .int .i64 0, .int .i64 t] 25)).alloc (.cells #[.int .i64 2, .int .i64 q, .int .i64 proof] 25))) := HB28.out.alloc HB28.out.size _
    clear HB28
    have xD0 : (((u3.alloc (.cells #[.int .i64 code, .int .i64 a, .int .i64 p, .int .i64 q, .int .i64 K, .bool false, .bool true] 23)).alloc (.cells #[.int .i64 3, .int .i64 0, .int .i64 t] 25)).alloc (.cells #[.int .i64 2, .int .i64 q, .int .i64 proof] 25)).cell? ⟨u2.heap.size, 0, none⟩ = some (.int .i64 code) := KD_29.out.c 0 rfl
    have xD1 : (((u3.alloc (.cells #[.int .i64 code, .int .i64 a, .int .i64 p, .int .i64 q, .int .i64 K, .bool false, .bool true] 23)).alloc (.cells #[.int .i64 3, .int .i64 0, .int .i64 t] 25)).alloc (.cells #[.int .i64 2, .int .i64 q, .int .i64 proof] 25)).cell? ⟨u2.heap.size, 1, none⟩ = some (.int .i64 a) := KD_29.out.c 1 rfl
    have xD2 : (((u3.alloc (.cells #[.int .i64 code, .int .i64 a, .int .i64 p, .int .i64 q, .int .i64 K, .bool false, .bool true] 23)).alloc (.cells #[.int .i64 3, .int .i64 0, .int .i64 t] 25)).alloc (.cells #[.int .i64 2, .int .i64 q, .int .i64 proof] 25)).cell? ⟨u2.heap.size, 2, none⟩ = some (.int .i64 p) := KD_29.out.c 2 rfl
    have xD3 : (((u3.alloc (.cells #[.int .i64 code, .int .i64 a, .int .i64 p, .int .i64 q, .int .i64 K, .bool false, .bool true] 23)).alloc (.cells #[.int .i64 3, .int .i64 0, .int .i64 t] 25)).alloc (.cells #[.int .i64 2, .int .i64 q, .int .i64 proof] 25)).cell? ⟨u2.heap.size, 3, none⟩ = some (.int .i64 0) := KD_29.out.c 3 rfl
    have xD4 : (((u3.alloc (.cells #[.int .i64 code, .int .i64 a, .int .i64 p, .int .i64 q, .int .i64 K, .bool false, .bool true] 23)).alloc (.cells #[.int .i64 3, .int .i64 0, .int .i64 t] 25)).alloc (.cells #[.int .i64 2, .int .i64 q, .int .i64 proof] 25)).cell? ⟨u2.heap.size, 4, none⟩ = some (.int .i64 0) := KD_29.out.c 4 rfl
    have xD5 : (((u3.alloc (.cells #[.int .i64 code, .int .i64 a, .int .i64 p, .int .i64 q, .int .i64 K, .bool false, .bool true] 23)).alloc (.cells #[.int .i64 3, .int .i64 0, .int .i64 t] 25)).alloc (.cells #[.int .i64 2, .int .i64 q, .int .i64 proof] 25)).cell? ⟨u2.heap.size, 5, none⟩ = some (.bool false) := KD_29.out.c 5 rfl
    have xD6 : (((u3.alloc (.cells #[.int .i64 code, .int .i64 a, .int .i64 p, .int .i64 q, .int .i64 K, .bool false, .bool true] 23)).alloc (.cells #[.int .i64 3, .int .i64 0, .int .i64 t] 25)).alloc (.cells #[.int .i64 2, .int .i64 q, .int .i64 proof] 25)).cell? ⟨u2.heap.size, 6, none⟩ = some (.bool false) := KD_29.out.c 6 rfl
    have zD : u2.heap.size < (((u3.alloc (.cells #[.int .i64 code, .int .i64 a, .int .i64 p, .int .i64 q, .int .i64 K, .bool false, .bool true] 23)).alloc (.cells #[.int .i64 3, .int .i64 0, .int .i64 t] 25)).alloc (.cells #[.int .i64 2, .int .i64 q, .int .i64 proof] 25)).heap.size := KD_29.out.2.2
    have z2D : u2.heap.size < (((u3.alloc (.cells #[.int .i64 code, .int .i64 a, .int .i64 p, .int .i64 q, .int .i64 K, .bool false, .bool true] 23)).alloc (.cells #[.int .i64 3, .int .i64 0, .int .i64 t] 25)).alloc (.cells #[.int .i64 2, .int .i64 q, .int .i64 proof] 25)).heap.size + 1 := by omega
    have xX0 : (((u3.alloc (.cells #[.int .i64 code, .int .i64 a, .int .i64 p, .int .i64 q, .int .i64 K, .bool false, .bool true] 23)).alloc (.cells #[.int .i64 3, .int .i64 0, .int .i64 t] 25)).alloc (.cells #[.int .i64 2, .int .i64 q, .int .i64 proof] 25)).cell? ⟨u3.heap.size + 1 + 1, 0, none⟩ = some (.int .i64 2) := KX_35.out.c 0 rfl
    have xX1 : (((u3.alloc (.cells #[.int .i64 code, .int .i64 a, .int .i64 p, .int .i64 q, .int .i64 K, .bool false, .bool true] 23)).alloc (.cells #[.int .i64 3, .int .i64 0, .int .i64 t] 25)).alloc (.cells #[.int .i64 2, .int .i64 q, .int .i64 proof] 25)).cell? ⟨u3.heap.size + 1 + 1, 1, none⟩ = some (.int .i64 q) := KX_35.out.c 1 rfl
    have xX2 : (((u3.alloc (.cells #[.int .i64 code, .int .i64 a, .int .i64 p, .int .i64 q, .int .i64 K, .bool false, .bool true] 23)).alloc (.cells #[.int .i64 3, .int .i64 0, .int .i64 t] 25)).alloc (.cells #[.int .i64 2, .int .i64 q, .int .i64 proof] 25)).cell? ⟨u3.heap.size + 1 + 1, 2, none⟩ = some (.int .i64 proof) := KX_35.out.c 2 rfl
    have zX : u3.heap.size + 1 + 1 < (((u3.alloc (.cells #[.int .i64 code, .int .i64 a, .int .i64 p, .int .i64 q, .int .i64 K, .bool false, .bool true] 23)).alloc (.cells #[.int .i64 3, .int .i64 0, .int .i64 t] 25)).alloc (.cells #[.int .i64 2, .int .i64 q, .int .i64 proof] 25)).heap.size := KX_35.out.2.2
    have z2X : u3.heap.size + 1 + 1 < (((u3.alloc (.cells #[.int .i64 code, .int .i64 a, .int .i64 p, .int .i64 q, .int .i64 K, .bool false, .bool true] 23)).alloc (.cells #[.int .i64 3, .int .i64 0, .int .i64 t] 25)).alloc (.cells #[.int .i64 2, .int .i64 q, .int .i64 proof] 25)).heap.size + 1 := by omega
    go_wp2_with fail
    refine (recv_is code a p 0 0 false false 2 q proof 17 _ _ _ hw3.out).mono ?_
    rintro e u4 ⟨rfl, b4⟩
    clear xD0 xD1 xD2 xD3 xD4 xD5 xD6 zD z2D xX0 xX1 xX2 zX z2X
    have KD_37 := Lib.hid (KD_29.out.step b4)
    clear KD_29
    have KA_38 := Lib.hid (KA_30.out.step b4)
    clear KA_30
    have KB_39 := Lib.hid (KB_31.out.step b4)
    clear KB_31
    have KC_40 := Lib.hid (KC_32.out.step b4)
    clear KC_32
    have KE_41 := Lib.hid (KE_33.out.step b4)
    clear KE_33
    have KF_42 := Lib.hid (KF_34.out.step b4)
    clear KF_34
    have KX_43 := Lib.hid (KX_35.out.step b4)
    clear KX_35
    have HB44 := Lib.hid (keep2 b4 HB36.out)
    clear HB36 b4
    clear KX_43
    have KD_45 := Lib.hid (KD_37.out.alloc (.cells #[.int .i64 0, .int .i64 0, .int .i64 0, .int .i64 0, .int .i64 0, .bool false, .bool false] 23))
    clear KD_37
    have KA_46 := Lib.hid (KA_38.out.alloc (.cells #[.int .i64 0, .int .i64 0, .int .i64 0, .int .i64 0, .int .i64 0, .bool false, .bool false] 23))
    clear KA_38
    have KB_47 := Lib.hid (KB_39.out.alloc (.cells #[.int .i64 0, .int .i64 0, .int .i64 0, .int .i64 0, .int .i64 0, .bool false, .bool false] 23))
    clear KB_39
    have KC_48 := Lib.hid (KC_40.out.alloc (.cells #[.int .i64 0, .int .i64 0, .int .i64 0, .int .i64 0, .int .i64 0, .bool false, .bool false] 23))
    clear KC_40
    have KE_49 := Lib.hid (KE_41.out.alloc (.cells #[.int .i64 0, .int .i64 0, .int .i64 0, .int .i64 0, .int .i64 0, .bool false, .bool false] 23))
    clear KE_41
    have KF_50 := Lib.hid (KF_42.out.alloc (.cells #[.int .i64 0, .int .i64 0, .int .i64 0, .int .i64 0, .int .i64 0, .bool false, .bool false] 23))
    clear KF_42
    have HB51 : Hid (Below w.heap.size w (u4.alloc (.cells #[.int .i64 0, .int .i64 0, .int .i64 0, .int .i64 0, .int .i64 0, .bool false, .bool false] 23))) := HB44.out.alloc HB44.out.size _
    clear HB44
    have KD_52 := Lib.hid (KD_45.out.alloc (.cells #[.int .i64 0, .int .i64 0, .int .i64 0] 25))
    clear KD_45
    have KA_53 := Lib.hid (KA_46.out.alloc (.cells #[.int .i64 0, .int .i64 0, .int .i64 0] 25))
    clear KA_46
    have KB_54 := Lib.hid (KB_47.out.alloc (.cells #[.int .i64 0, .int .i64 0, .int .i64 0] 25))
    clear KB_47
    have KC_55 := Lib.hid (KC_48.out.alloc (.cells #[.int .i64 0, .int .i64 0, .int .i64 0] 25))
    clear KC_48
    have KE_56 := Lib.hid (KE_49.out.alloc (.cells #[.int .i64 0, .int .i64 0, .int .i64 0] 25))
    clear KE_49
    have KF_57 := Lib.hid (KF_50.out.alloc (.cells #[.int .i64 0, .int .i64 0, .int .i64 0] 25))
    clear KF_50
    have HB58 : Hid (Below w.heap.size w ((u4.alloc (.cells #[.int .i64 0, .int .i64 0, .int .i64 0, .int .i64 0, .int .i64 0, .bool false, .bool false] 23)).alloc (.cells #[.int .i64 0, .int .i64 0, .int .i64 0] 25))) := HB51.out.alloc HB51.out.size _
    clear HB51
    have xC0 : ((u4.alloc (.cells #[.int .i64 0, .int .i64 0, .int .i64 0, .int .i64 0, .int .i64 0, .bool false, .bool false] 23)).alloc (.cells #[.int .i64 0, .int .i64 0, .int .i64 0] 25)).cell? ⟨n2, 0, none⟩ = some (.int .i64 2) := KC_55.out.c 0 rfl
    have xC1 : ((u4.alloc (.cells #[.int .i64 0, .int .i64 0, .int .i64 0, .int .i64 0, .int .i64 0, .bool false, .bool false] 23)).alloc (.cells #[.int .i64 0, .int .i64 0, .int .i64 0] 25)).cell? ⟨n2, 1, none⟩ = some (.int .i64 q) := KC_55.out.c 1 rfl
    have xC2 : ((u4.alloc (.cells #[.int .i64 0, .int .i64 0, .int .i64 0, .int .i64 0, .int .i64 0, .bool false, .bool false] 23)).alloc (.cells #[.int .i64 0, .int .i64 0, .int .i64 0] 25)).cell? ⟨n2, 2, none⟩ = some (.int .i64 r) := KC_55.out.c 2 rfl
    have zC : n2 < ((u4.alloc (.cells #[.int .i64 0, .int .i64 0, .int .i64 0, .int .i64 0, .int .i64 0, .bool false, .bool false] 23)).alloc (.cells #[.int .i64 0, .int .i64 0, .int .i64 0] 25)).heap.size := KC_55.out.2.2
    have z2C : n2 < ((u4.alloc (.cells #[.int .i64 0, .int .i64 0, .int .i64 0, .int .i64 0, .int .i64 0, .bool false, .bool false] 23)).alloc (.cells #[.int .i64 0, .int .i64 0, .int .i64 0] 25)).heap.size + 1 := by omega
    have xF0 : ((u4.alloc (.cells #[.int .i64 0, .int .i64 0, .int .i64 0, .int .i64 0, .int .i64 0, .bool false, .bool false] 23)).alloc (.cells #[.int .i64 0, .int .i64 0, .int .i64 0] 25)).cell? ⟨u3.heap.size + 1, 0, none⟩ = some (.int .i64 3) := KF_57.out.c 0 rfl
    have xF1 : ((u4.alloc (.cells #[.int .i64 0, .int .i64 0, .int .i64 0, .int .i64 0, .int .i64 0, .bool false, .bool false] 23)).alloc (.cells #[.int .i64 0, .int .i64 0, .int .i64 0] 25)).cell? ⟨u3.heap.size + 1, 1, none⟩ = some (.int .i64 0) := KF_57.out.c 1 rfl
    have xF2 : ((u4.alloc (.cells #[.int .i64 0, .int .i64 0, .int .i64 0, .int .i64 0, .int .i64 0, .bool false, .bool false] 23)).alloc (.cells #[.int .i64 0, .int .i64 0, .int .i64 0] 25)).cell? ⟨u3.heap.size + 1, 2, none⟩ = some (.int .i64 t) := KF_57.out.c 2 rfl
    have zF : u3.heap.size + 1 < ((u4.alloc (.cells #[.int .i64 0, .int .i64 0, .int .i64 0, .int .i64 0, .int .i64 0, .bool false, .bool false] 23)).alloc (.cells #[.int .i64 0, .int .i64 0, .int .i64 0] 25)).heap.size := KF_57.out.2.2
    have z2F : u3.heap.size + 1 < ((u4.alloc (.cells #[.int .i64 0, .int .i64 0, .int .i64 0, .int .i64 0, .int .i64 0, .bool false, .bool false] 23)).alloc (.cells #[.int .i64 0, .int .i64 0, .int .i64 0] 25)).heap.size + 1 := by omega
    go_upto_region 16 with fail
    clear xC0 xC1 xC2 zC z2C xF0 xF1 xF2 zF z2F
    have KD_59 := Lib.hid (KD_52.out.alloc (.cells #[.int .i64 3, .int .i64 0, .int .i64 proof] 25))
    clear KD_52
    have KA_60 := Lib.hid (KA_53.out.alloc (.cells #[.int .i64 3, .int .i64 0, .int .i64 proof] 25))
    clear KA_53
    have KB_61 := Lib.hid (KB_54.out.alloc (.cells #[.int .i64 3, .int .i64 0, .int .i64 proof] 25))
    clear KB_54
    have KC_62 := Lib.hid (KC_55.out.alloc (.cells #[.int .i64 3, .int .i64 0, .int .i64 proof] 25))
    clear KC_55
    have KE_63 := Lib.hid (KE_56.out.alloc (.cells #[.int .i64 3, .int .i64 0, .int .i64 proof] 25))
    clear KE_56
    have KF_64 := Lib.hid (KF_57.out.alloc (.cells #[.int .i64 3, .int .i64 0, .int .i64 proof] 25))
    clear KF_57
    have KY_65 := Lib.hid (Cs.new ((u4.alloc (.cells #[.int .i64 0, .int .i64 0, .int .i64 0, .int .i64 0, .int .i64 0, .bool false, .bool false] 23)).alloc (.cells #[.int .i64 0, .int .i64 0, .int .i64 0] 25)) (u4.heap.size + 1 + 1) #[.int .i64 3, .int .i64 0, .int .i64 proof] 25 (by simp))
    have HB66 : Hid (Below w.heap.size w (((u4.alloc (.cells #[.int .i64 0, .int .i64 0, .int .i64 0, .int .i64 0, .int .i64 0, .bool false, .bool false] 23)).alloc (.cells #[.int .i64 0, .int .i64 0, .int .i64 0] 25)).alloc (.cells #[.int .i64 3, .int .i64 0, .int .i64 proof] 25))) := HB58.out.alloc HB58.out.size _
    clear HB58
    have xB0 : (((u4.alloc (.cells #[.int .i64 0, .int .i64 0, .int .i64 0, .int .i64 0, .int .i64 0, .bool false, .bool false] 23)).alloc (.cells #[.int .i64 0, .int .i64 0, .int .i64 0] 25)).alloc (.cells #[.int .i64 3, .int .i64 0, .int .i64 proof] 25)).cell? ⟨n1, 0, none⟩ = some (.int .i64 code) := KB_61.out.c 0 rfl
    have xB1 : (((u4.alloc (.cells #[.int .i64 0, .int .i64 0, .int .i64 0, .int .i64 0, .int .i64 0, .bool false, .bool false] 23)).alloc (.cells #[.int .i64 0, .int .i64 0, .int .i64 0] 25)).alloc (.cells #[.int .i64 3, .int .i64 0, .int .i64 proof] 25)).cell? ⟨n1, 1, none⟩ = some (.int .i64 b) := KB_61.out.c 1 rfl
    have xB2 : (((u4.alloc (.cells #[.int .i64 0, .int .i64 0, .int .i64 0, .int .i64 0, .int .i64 0, .bool false, .bool false] 23)).alloc (.cells #[.int .i64 0, .int .i64 0, .int .i64 0] 25)).alloc (.cells #[.int .i64 3, .int .i64 0, .int .i64 proof] 25)).cell? ⟨n1, 2, none⟩ = some (.int .i64 q) := KB_61.out.c 2 rfl
    have xB3 : (((u4.alloc (.cells #[.int .i64 0, .int .i64 0, .int .i64 0, .int .i64 0, .int .i64 0, .bool false, .bool false] 23)).alloc (.cells #[.int .i64 0, .int .i64 0, .int .i64 0] 25)).alloc (.cells #[.int .i64 3, .int .i64 0, .int .i64 proof] 25)).cell? ⟨n1, 3, none⟩ = some (.int .i64 p) := KB_61.out.c 3 rfl
    have xB4 : (((u4.alloc (.cells #[.int .i64 0, .int .i64 0, .int .i64 0, .int .i64 0, .int .i64 0, .bool false, .bool false] 23)).alloc (.cells #[.int .i64 0, .int .i64 0, .int .i64 0] 25)).alloc (.cells #[.int .i64 3, .int .i64 0, .int .i64 proof] 25)).cell? ⟨n1, 4, none⟩ = some (.int .i64 0) := KB_61.out.c 4 rfl
    have xB5 : (((u4.alloc (.cells #[.int .i64 0, .int .i64 0, .int .i64 0, .int .i64 0, .int .i64 0, .bool false, .bool false] 23)).alloc (.cells #[.int .i64 0, .int .i64 0, .int .i64 0] 25)).alloc (.cells #[.int .i64 3, .int .i64 0, .int .i64 proof] 25)).cell? ⟨n1, 5, none⟩ = some (.bool true) := KB_61.out.c 5 rfl
    have xB6 : (((u4.alloc (.cells #[.int .i64 0, .int .i64 0, .int .i64 0, .int .i64 0, .int .i64 0, .bool false, .bool false] 23)).alloc (.cells #[.int .i64 0, .int .i64 0, .int .i64 0] 25)).alloc (.cells #[.int .i64 3, .int .i64 0, .int .i64 proof] 25)).cell? ⟨n1, 6, none⟩ = some (.bool false) := KB_61.out.c 6 rfl
    have zB : n1 < (((u4.alloc (.cells #[.int .i64 0, .int .i64 0, .int .i64 0, .int .i64 0, .int .i64 0, .bool false, .bool false] 23)).alloc (.cells #[.int .i64 0, .int .i64 0, .int .i64 0] 25)).alloc (.cells #[.int .i64 3, .int .i64 0, .int .i64 proof] 25)).heap.size := KB_61.out.2.2
    have z2B : n1 < (((u4.alloc (.cells #[.int .i64 0, .int .i64 0, .int .i64 0, .int .i64 0, .int .i64 0, .bool false, .bool false] 23)).alloc (.cells #[.int .i64 0, .int .i64 0, .int .i64 0] 25)).alloc (.cells #[.int .i64 3, .int .i64 0, .int .i64 proof] 25)).heap.size + 1 := by omega
    have xY0 : (((u4.alloc (.cells #[.int .i64 0, .int .i64 0, .int .i64 0, .int .i64 0, .int .i64 0, .bool false, .bool false] 23)).alloc (.cells #[.int .i64 0, .int .i64 0, .int .i64 0] 25)).alloc (.cells #[.int .i64 3, .int .i64 0, .int .i64 proof] 25)).cell? ⟨u4.heap.size + 1 + 1, 0, none⟩ = some (.int .i64 3) := KY_65.out.c 0 rfl
    have xY1 : (((u4.alloc (.cells #[.int .i64 0, .int .i64 0, .int .i64 0, .int .i64 0, .int .i64 0, .bool false, .bool false] 23)).alloc (.cells #[.int .i64 0, .int .i64 0, .int .i64 0] 25)).alloc (.cells #[.int .i64 3, .int .i64 0, .int .i64 proof] 25)).cell? ⟨u4.heap.size + 1 + 1, 1, none⟩ = some (.int .i64 0) := KY_65.out.c 1 rfl
    have xY2 : (((u4.alloc (.cells #[.int .i64 0, .int .i64 0, .int .i64 0, .int .i64 0, .int .i64 0, .bool false, .bool false] 23)).alloc (.cells #[.int .i64 0, .int .i64 0, .int .i64 0] 25)).alloc (.cells #[.int .i64 3, .int .i64 0, .int .i64 proof] 25)).cell? ⟨u4.heap.size + 1 + 1, 2, none⟩ = some (.int .i64 proof) := KY_65.out.c 2 rfl
    have zY : u4.heap.size + 1 + 1 < (((u4.alloc (.cells #[.int .i64 0, .int .i64 0, .int .i64 0, .int .i64 0, .int .i64 0, .bool false, .bool false] 23)).alloc (.cells #[.int .i64 0, .int .i64 0, .int .i64 0] 25)).alloc (.cells #[.int .i64 3, .int .i64 0, .int .i64 proof] 25)).heap.size := KY_65.out.2.2
    have z2Y : u4.heap.size + 1 + 1 < (((u4.alloc (.cells #[.int .i64 0, .int .i64 0, .int .i64 0, .int .i64 0, .int .i64 0, .bool false, .bool false] 23)).alloc (.cells #[.int .i64 0, .int .i64 0, .int .i64 0] 25)).alloc (.cells #[.int .i64 3, .int .i64 0, .int .i64 proof] 25)).heap.size + 1 := by omega
    go_wp2_with fail
    refine (recv_is code b q p 0 true false 3 0 proof 17 _ _ _ hw4.out).mono ?_
    rintro e u5 ⟨rfl, b5⟩
    clear xB0 xB1 xB2 xB3 xB4 xB5 xB6 zB z2B xY0 xY1 xY2 zY z2Y
    have KD_67 := Lib.hid (KD_59.out.step b5)
    clear KD_59
    have KA_68 := Lib.hid (KA_60.out.step b5)
    clear KA_60
    have KB_69 := Lib.hid (KB_61.out.step b5)
    clear KB_61
    have KC_70 := Lib.hid (KC_62.out.step b5)
    clear KC_62
    have KE_71 := Lib.hid (KE_63.out.step b5)
    clear KE_63
    have KF_72 := Lib.hid (KF_64.out.step b5)
    clear KF_64
    have KY_73 := Lib.hid (KY_65.out.step b5)
    clear KY_65
    have HB74 := Lib.hid (keep2 b5 HB66.out)
    clear HB66 b5
    clear KY_73
    have KD_75 := Lib.hid (KD_67.out.alloc (.cells #[.int .i64 0, .int .i64 0, .int .i64 0, .int .i64 0, .int .i64 0, .bool false, .bool false] 23))
    clear KD_67
    have KA_76 := Lib.hid (KA_68.out.alloc (.cells #[.int .i64 0, .int .i64 0, .int .i64 0, .int .i64 0, .int .i64 0, .bool false, .bool false] 23))
    clear KA_68
    have KB_77 := Lib.hid (KB_69.out.alloc (.cells #[.int .i64 0, .int .i64 0, .int .i64 0, .int .i64 0, .int .i64 0, .bool false, .bool false] 23))
    clear KB_69
    have KC_78 := Lib.hid (KC_70.out.alloc (.cells #[.int .i64 0, .int .i64 0, .int .i64 0, .int .i64 0, .int .i64 0, .bool false, .bool false] 23))
    clear KC_70
    have KE_79 := Lib.hid (KE_71.out.alloc (.cells #[.int .i64 0, .int .i64 0, .int .i64 0, .int .i64 0, .int .i64 0, .bool false, .bool false] 23))
    clear KE_71
    have KF_80 := Lib.hid (KF_72.out.alloc (.cells #[.int .i64 0, .int .i64 0, .int .i64 0, .int .i64 0, .int .i64 0, .bool false, .bool false] 23))
    clear KF_72
    have HB81 : Hid (Below w.heap.size w (u5.alloc (.cells #[.int .i64 0, .int .i64 0, .int .i64 0, .int .i64 0, .int .i64 0, .bool false, .bool false] 23))) := HB74.out.alloc HB74.out.size _
    clear HB74
    have KD_82 := Lib.hid (KD_75.out.alloc (.cells #[.int .i64 0, .int .i64 0, .int .i64 0] 25))
    clear KD_75
    have KA_83 := Lib.hid (KA_76.out.alloc (.cells #[.int .i64 0, .int .i64 0, .int .i64 0] 25))
    clear KA_76
    have KB_84 := Lib.hid (KB_77.out.alloc (.cells #[.int .i64 0, .int .i64 0, .int .i64 0] 25))
    clear KB_77
    have KC_85 := Lib.hid (KC_78.out.alloc (.cells #[.int .i64 0, .int .i64 0, .int .i64 0] 25))
    clear KC_78
    have KE_86 := Lib.hid (KE_79.out.alloc (.cells #[.int .i64 0, .int .i64 0, .int .i64 0] 25))
    clear KE_79
    have KF_87 := Lib.hid (KF_80.out.alloc (.cells #[.int .i64 0, .int .i64 0, .int .i64 0] 25))
    clear KF_80
    have HB88 : Hid (Below w.heap.size w ((u5.alloc (.cells #[.int .i64 0, .int .i64 0, .int .i64 0, .int .i64 0, .int .i64 0, .bool false, .bool false] 23)).alloc (.cells #[.int .i64 0, .int .i64 0, .int .i64 0] 25))) := HB81.out.alloc HB81.out.size _
    clear HB81
    have xC0 : ((u5.alloc (.cells #[.int .i64 0, .int .i64 0, .int .i64 0, .int .i64 0, .int .i64 0, .bool false, .bool false] 23)).alloc (.cells #[.int .i64 0, .int .i64 0, .int .i64 0] 25)).cell? ⟨n2, 0, none⟩ = some (.int .i64 2) := KC_85.out.c 0 rfl
    have xC1 : ((u5.alloc (.cells #[.int .i64 0, .int .i64 0, .int .i64 0, .int .i64 0, .int .i64 0, .bool false, .bool false] 23)).alloc (.cells #[.int .i64 0, .int .i64 0, .int .i64 0] 25)).cell? ⟨n2, 1, none⟩ = some (.int .i64 q) := KC_85.out.c 1 rfl
    have xC2 : ((u5.alloc (.cells #[.int .i64 0, .int .i64 0, .int .i64 0, .int .i64 0, .int .i64 0, .bool false, .bool false] 23)).alloc (.cells #[.int .i64 0, .int .i64 0, .int .i64 0] 25)).cell? ⟨n2, 2, none⟩ = some (.int .i64 r) := KC_85.out.c 2 rfl
    have zC : n2 < ((u5.alloc (.cells #[.int .i64 0, .int .i64 0, .int .i64 0, .int .i64 0, .int .i64 0, .bool false, .bool false] 23)).alloc (.cells #[.int .i64 0, .int .i64 0, .int .i64 0] 25)).heap.size := KC_85.out.2.2
    have z2C : n2 < ((u5.alloc (.cells #[.int .i64 0, .int .i64 0, .int .i64 0, .int .i64 0, .int .i64 0, .bool false, .bool false] 23)).alloc (.cells #[.int .i64 0, .int .i64 0, .int .i64 0] 25)).heap.size + 1 := by omega
    have xF0 : ((u5.alloc (.cells #[.int .i64 0, .int .i64 0, .int .i64 0, .int .i64 0, .int .i64 0, .bool false, .bool false] 23)).alloc (.cells #[.int .i64 0, .int .i64 0, .int .i64 0] 25)).cell? ⟨u3.heap.size + 1, 0, none⟩ = some (.int .i64 3) := KF_87.out.c 0 rfl
    have xF1 : ((u5.alloc (.cells #[.int .i64 0, .int .i64 0, .int .i64 0, .int .i64 0, .int .i64 0, .bool false, .bool false] 23)).alloc (.cells #[.int .i64 0, .int .i64 0, .int .i64 0] 25)).cell? ⟨u3.heap.size + 1, 1, none⟩ = some (.int .i64 0) := KF_87.out.c 1 rfl
    have xF2 : ((u5.alloc (.cells #[.int .i64 0, .int .i64 0, .int .i64 0, .int .i64 0, .int .i64 0, .bool false, .bool false] 23)).alloc (.cells #[.int .i64 0, .int .i64 0, .int .i64 0] 25)).cell? ⟨u3.heap.size + 1, 2, none⟩ = some (.int .i64 t) := KF_87.out.c 2 rfl
    have zF : u3.heap.size + 1 < ((u5.alloc (.cells #[.int .i64 0, .int .i64 0, .int .i64 0, .int .i64 0, .int .i64 0, .bool false, .bool false] 23)).alloc (.cells #[.int .i64 0, .int .i64 0, .int .i64 0] 25)).heap.size := KF_87.out.2.2
    have z2F : u3.heap.size + 1 < ((u5.alloc (.cells #[.int .i64 0, .int .i64 0, .int .i64 0, .int .i64 0, .int .i64 0, .bool false, .bool false] 23)).alloc (.cells #[.int .i64 0, .int .i64 0, .int .i64 0] 25)).heap.size + 1 := by omega
    go_wp2_with fail
    refine (racc_at pub true _ hb.out).mono ?_
    rintro e _ ⟨rfl, rfl⟩
    go_upto_region 23 with fail
    clear xC0 xC1 xC2 zC z2C xF0 xF1 xF2 zF z2F
    have KD_89 := Lib.hid (KD_82.out.alloc (.cells #[.int .i64 2, .int .i64 pub, .int .i64 r] 25))
    clear KD_82
    have KA_90 := Lib.hid (KA_83.out.alloc (.cells #[.int .i64 2, .int .i64 pub, .int .i64 r] 25))
    clear KA_83
    have KB_91 := Lib.hid (KB_84.out.alloc (.cells #[.int .i64 2, .int .i64 pub, .int .i64 r] 25))
    clear KB_84
    have KC_92 := Lib.hid (KC_85.out.alloc (.cells #[.int .i64 2, .int .i64 pub, .int .i64 r] 25))
    clear KC_85
    have KE_93 := Lib.hid (KE_86.out.alloc (.cells #[.int .i64 2, .int .i64 pub, .int .i64 r] 25))
    clear KE_86
    have KF_94 := Lib.hid (KF_87.out.alloc (.cells #[.int .i64 2, .int .i64 pub, .int .i64 r] 25))
    clear KF_87
    have KY2_95 := Lib.hid (Cs.new ((u5.alloc (.cells #[.int .i64 0, .int .i64 0, .int .i64 0, .int .i64 0, .int .i64 0, .bool false, .bool false] 23)).alloc (.cells #[.int .i64 0, .int .i64 0, .int .i64 0] 25)) (u5.heap.size + 1 + 1) #[.int .i64 2, .int .i64 pub, .int .i64 r] 25 (by simp))
    have HB96 : Hid (Below w.heap.size w (((u5.alloc (.cells #[.int .i64 0, .int .i64 0, .int .i64 0, .int .i64 0, .int .i64 0, .bool false, .bool false] 23)).alloc (.cells #[.int .i64 0, .int .i64 0, .int .i64 0] 25)).alloc (.cells #[.int .i64 2, .int .i64 pub, .int .i64 r] 25))) := HB88.out.alloc HB88.out.size _
    clear HB88
    have xD0 : (((u5.alloc (.cells #[.int .i64 0, .int .i64 0, .int .i64 0, .int .i64 0, .int .i64 0, .bool false, .bool false] 23)).alloc (.cells #[.int .i64 0, .int .i64 0, .int .i64 0] 25)).alloc (.cells #[.int .i64 2, .int .i64 pub, .int .i64 r] 25)).cell? ⟨u2.heap.size, 0, none⟩ = some (.int .i64 code) := KD_89.out.c 0 rfl
    have xD1 : (((u5.alloc (.cells #[.int .i64 0, .int .i64 0, .int .i64 0, .int .i64 0, .int .i64 0, .bool false, .bool false] 23)).alloc (.cells #[.int .i64 0, .int .i64 0, .int .i64 0] 25)).alloc (.cells #[.int .i64 2, .int .i64 pub, .int .i64 r] 25)).cell? ⟨u2.heap.size, 1, none⟩ = some (.int .i64 a) := KD_89.out.c 1 rfl
    have xD2 : (((u5.alloc (.cells #[.int .i64 0, .int .i64 0, .int .i64 0, .int .i64 0, .int .i64 0, .bool false, .bool false] 23)).alloc (.cells #[.int .i64 0, .int .i64 0, .int .i64 0] 25)).alloc (.cells #[.int .i64 2, .int .i64 pub, .int .i64 r] 25)).cell? ⟨u2.heap.size, 2, none⟩ = some (.int .i64 p) := KD_89.out.c 2 rfl
    have xD3 : (((u5.alloc (.cells #[.int .i64 0, .int .i64 0, .int .i64 0, .int .i64 0, .int .i64 0, .bool false, .bool false] 23)).alloc (.cells #[.int .i64 0, .int .i64 0, .int .i64 0] 25)).alloc (.cells #[.int .i64 2, .int .i64 pub, .int .i64 r] 25)).cell? ⟨u2.heap.size, 3, none⟩ = some (.int .i64 0) := KD_89.out.c 3 rfl
    have xD4 : (((u5.alloc (.cells #[.int .i64 0, .int .i64 0, .int .i64 0, .int .i64 0, .int .i64 0, .bool false, .bool false] 23)).alloc (.cells #[.int .i64 0, .int .i64 0, .int .i64 0] 25)).alloc (.cells #[.int .i64 2, .int .i64 pub, .int .i64 r] 25)).cell? ⟨u2.heap.size, 4, none⟩ = some (.int .i64 0) := KD_89.out.c 4 rfl
    have xD5 : (((u5.alloc (.cells #[.int .i64 0, .int .i64 0, .int .i64 0, .int .i64 0, .int .i64 0, .bool false, .bool false] 23)).alloc (.cells #[.int .i64 0, .int .i64 0, .int .i64 0] 25)).alloc (.cells #[.int .i64 2, .int .i64 pub, .int .i64 r] 25)).cell? ⟨u2.heap.size, 5, none⟩ = some (.bool false) := KD_89.out.c 5 rfl
    have xD6 : (((u5.alloc (.cells #[.int .i64 0, .int .i64 0, .int .i64 0, .int .i64 0, .int .i64 0, .bool false, .bool false] 23)).alloc (.cells #[.int .i64 0, .int .i64 0, .int .i64 0] 25)).alloc (.cells #[.int .i64 2, .int .i64 pub, .int .i64 r] 25)).cell? ⟨u2.heap.size, 6, none⟩ = some (.bool false) := KD_89.out.c 6 rfl
    have zD : u2.heap.size < (((u5.alloc (.cells #[.int .i64 0, .int .i64 0, .int .i64 0, .int .i64 0, .int .i64 0, .bool false, .bool false] 23)).alloc (.cells #[.int .i64 0, .int .i64 0, .int .i64 0] 25)).alloc (.cells #[.int .i64 2, .int .i64 pub, .int .i64 r] 25)).heap.size := KD_89.out.2.2
    have z2D : u2.heap.size < (((u5.alloc (.cells #[.int .i64 0, .int .i64 0, .int .i64 0, .int .i64 0, .int .i64 0, .bool false, .bool false] 23)).alloc (.cells #[.int .i64 0, .int .i64 0, .int .i64 0] 25)).alloc (.cells #[.int .i64 2, .int .i64 pub, .int .i64 r] 25)).heap.size + 1 := by omega
    have xY20 : (((u5.alloc (.cells #[.int .i64 0, .int .i64 0, .int .i64 0, .int .i64 0, .int .i64 0, .bool false, .bool false] 23)).alloc (.cells #[.int .i64 0, .int .i64 0, .int .i64 0] 25)).alloc (.cells #[.int .i64 2, .int .i64 pub, .int .i64 r] 25)).cell? ⟨u5.heap.size + 1 + 1, 0, none⟩ = some (.int .i64 2) := KY2_95.out.c 0 rfl
    have xY21 : (((u5.alloc (.cells #[.int .i64 0, .int .i64 0, .int .i64 0, .int .i64 0, .int .i64 0, .bool false, .bool false] 23)).alloc (.cells #[.int .i64 0, .int .i64 0, .int .i64 0] 25)).alloc (.cells #[.int .i64 2, .int .i64 pub, .int .i64 r] 25)).cell? ⟨u5.heap.size + 1 + 1, 1, none⟩ = some (.int .i64 pub) := KY2_95.out.c 1 rfl
    have xY22 : (((u5.alloc (.cells #[.int .i64 0, .int .i64 0, .int .i64 0, .int .i64 0, .int .i64 0, .bool false, .bool false] 23)).alloc (.cells #[.int .i64 0, .int .i64 0, .int .i64 0] 25)).alloc (.cells #[.int .i64 2, .int .i64 pub, .int .i64 r] 25)).cell? ⟨u5.heap.size + 1 + 1, 2, none⟩ = some (.int .i64 r) := KY2_95.out.c 2 rfl
    have zY2 : u5.heap.size + 1 + 1 < (((u5.alloc (.cells #[.int .i64 0, .int .i64 0, .int .i64 0, .int .i64 0, .int .i64 0, .bool false, .bool false] 23)).alloc (.cells #[.int .i64 0, .int .i64 0, .int .i64 0] 25)).alloc (.cells #[.int .i64 2, .int .i64 pub, .int .i64 r] 25)).heap.size := KY2_95.out.2.2
    have z2Y2 : u5.heap.size + 1 + 1 < (((u5.alloc (.cells #[.int .i64 0, .int .i64 0, .int .i64 0, .int .i64 0, .int .i64 0, .bool false, .bool false] 23)).alloc (.cells #[.int .i64 0, .int .i64 0, .int .i64 0] 25)).alloc (.cells #[.int .i64 2, .int .i64 pub, .int .i64 r] 25)).heap.size + 1 := by omega
    go_wp2_with fail
    refine (recv_is code a p 0 0 false false 2 pub r 17 _ _ _ hw5.out).mono ?_
    rintro e u6 ⟨rfl, b6⟩
    clear xD0 xD1 xD2 xD3 xD4 xD5 xD6 zD z2D xY20 xY21 xY22 zY2 z2Y2
    have KD_97 := Lib.hid (KD_89.out.step b6)
    clear KD_89
    have KA_98 := Lib.hid (KA_90.out.step b6)
    clear KA_90
    have KB_99 := Lib.hid (KB_91.out.step b6)
    clear KB_91
    have KC_100 := Lib.hid (KC_92.out.step b6)
    clear KC_92
    have KE_101 := Lib.hid (KE_93.out.step b6)
    clear KE_93
    have KF_102 := Lib.hid (KF_94.out.step b6)
    clear KF_94
    have KY2_103 := Lib.hid (KY2_95.out.step b6)
    clear KY2_95
    have HB104 := Lib.hid (keep2 b6 HB96.out)
    clear HB96 b6
    clear KY2_103
    have KD_105 := Lib.hid (KD_97.out.alloc (.cells #[.int .i64 0, .int .i64 0, .int .i64 0, .int .i64 0, .int .i64 0, .bool false, .bool false] 23))
    clear KD_97
    have KA_106 := Lib.hid (KA_98.out.alloc (.cells #[.int .i64 0, .int .i64 0, .int .i64 0, .int .i64 0, .int .i64 0, .bool false, .bool false] 23))
    clear KA_98
    have KB_107 := Lib.hid (KB_99.out.alloc (.cells #[.int .i64 0, .int .i64 0, .int .i64 0, .int .i64 0, .int .i64 0, .bool false, .bool false] 23))
    clear KB_99
    have KC_108 := Lib.hid (KC_100.out.alloc (.cells #[.int .i64 0, .int .i64 0, .int .i64 0, .int .i64 0, .int .i64 0, .bool false, .bool false] 23))
    clear KC_100
    have KE_109 := Lib.hid (KE_101.out.alloc (.cells #[.int .i64 0, .int .i64 0, .int .i64 0, .int .i64 0, .int .i64 0, .bool false, .bool false] 23))
    clear KE_101
    have KF_110 := Lib.hid (KF_102.out.alloc (.cells #[.int .i64 0, .int .i64 0, .int .i64 0, .int .i64 0, .int .i64 0, .bool false, .bool false] 23))
    clear KF_102
    have HB111 : Hid (Below w.heap.size w (u6.alloc (.cells #[.int .i64 0, .int .i64 0, .int .i64 0, .int .i64 0, .int .i64 0, .bool false, .bool false] 23))) := HB104.out.alloc HB104.out.size _
    clear HB104
    have KD_112 := Lib.hid (KD_105.out.alloc (.cells #[.int .i64 0, .int .i64 0, .int .i64 0] 25))
    clear KD_105
    have KA_113 := Lib.hid (KA_106.out.alloc (.cells #[.int .i64 0, .int .i64 0, .int .i64 0] 25))
    clear KA_106
    have KB_114 := Lib.hid (KB_107.out.alloc (.cells #[.int .i64 0, .int .i64 0, .int .i64 0] 25))
    clear KB_107
    have KC_115 := Lib.hid (KC_108.out.alloc (.cells #[.int .i64 0, .int .i64 0, .int .i64 0] 25))
    clear KC_108
    have KE_116 := Lib.hid (KE_109.out.alloc (.cells #[.int .i64 0, .int .i64 0, .int .i64 0] 25))
    clear KE_109
    have KF_117 := Lib.hid (KF_110.out.alloc (.cells #[.int .i64 0, .int .i64 0, .int .i64 0] 25))
    clear KF_110
    have HB118 : Hid (Below w.heap.size w ((u6.alloc (.cells #[.int .i64 0, .int .i64 0, .int .i64 0, .int .i64 0, .int .i64 0, .bool false, .bool false] 23)).alloc (.cells #[.int .i64 0, .int .i64 0, .int .i64 0] 25))) := HB111.out.alloc HB111.out.size _
    clear HB111
    go_upto_region 24 with fail
    clear KD_112
    clear KA_113
    clear KB_114
    clear KF_117
    clear hw1
    clear hw2
    clear hw5
    clear hp
    clear hq
    clear hb
    clear hw3
    clear hw4
    obtain ⟨wq, hwq⟩ : ∃ wq, ((u6.alloc (.cells #[.int .i64 0, .int .i64 0, .int .i64 0, .int .i64 0, .int .i64 0, .bool false, .bool false] 23)).alloc (.cells #[.int .i64 0, .int .i64 0, .int .i64 0] 25)) = wq := ⟨_, rfl⟩
    rw [hwq] at HB118 KC_115 KE_116 ⊢
    clear hwq
    obtain ⟨lit, hlit⟩ : ∃ lit : (Nat → Value) → Act, lit = fun vs => { tmps := #[Value.int IntKind.i64 code, Value.int IntKind.i64 a, Value.int IntKind.i64 b, Value.int IntKind.i64 proof, Value.int IntKind.i64 pub, undef, undef, undef, undef, undef, Value.bool false, Value.bool true, Value.pointer (some { block := u2.heap.size, off := 0 }), Value.pointer (some { block := u2.heap.size + 1, off := 0 }), Value.pointer (some { block := n1, off := 0 }), Value.pointer (some { block := n2, off := 0 }), Value.int IntKind.i64 0, Value.pointer (some { block := u3.heap.size, off := 0 }), Value.pointer (some { block := u3.heap.size + 1, off := 0 }), Value.int IntKind.i64 0, Value.pointer (some { block := u3.heap.size + 1 + 1, off := 0 }), Value.pointer (some { block := u4.heap.size, off := 0 }), Value.pointer (some { block := u4.heap.size + 1, off := 0 }), Value.int IntKind.i64 17, Value.pointer (some { block := u4.heap.size + 1 + 1, off := 0 }), Value.pointer (some { block := u5.heap.size, off := 0 }), Value.pointer (some { block := u5.heap.size + 1, off := 0 }), Value.int IntKind.i64 17, Value.pointer (some { block := u5.heap.size + 1 + 1, off := 0 }), Value.pointer (some { block := u6.heap.size, off := 0 }), Value.pointer (some { block := u6.heap.size + 1, off := 0 }), Value.int IntKind.i64 17, vs 12, Value.bool true, Value.tuple #[Value.agg (jc code a p 0 0 false false), Value.agg (hc3 1 p 0)], Value.int IntKind.i64 code, Value.int IntKind.i64 a, Value.tuple #[Value.agg (jc code a p 0 0 false false), Value.agg (hc3 1 p 0)], Value.agg (jc code a p 0 0 false false), Value.agg (hc3 1 p 0), u40, u41, u42, u43, u44, u45, u46, u47, u48, Value.tuple #[Value.agg (jc code a p q K false true), Value.agg (hc3 3 0 t), Value.int IntKind.i64 0], Value.agg #[Value.int IntKind.i64 code, Value.int IntKind.i64 a, Value.int IntKind.i64 p, Value.int IntKind.i64 0, Value.int IntKind.i64 0, Value.bool false, Value.bool false], Value.agg #[Value.int IntKind.i64 2, Value.int IntKind.i64 q, Value.int IntKind.i64 r], Value.tuple #[Value.agg (jc code a p q K false true), Value.agg (hc3 3 0 t), Value.int IntKind.i64 0], Value.agg (jc code a p q K false true), Value.agg (hc3 3 0 t), Value.int IntKind.i64 0, Value.int IntKind.i64 0, Value.bool false, Value.bool false, Value.int IntKind.i64 0, Value.bool false, Value.bool false, undef, Value.int IntKind.i64 proof, Value.pointer (some { block := n2, off := 2 }), Value.int IntKind.i64 r, Value.bool true, Value.agg #[Value.int IntKind.i64 2, Value.int IntKind.i64 q, Value.int IntKind.i64 r], Value.int IntKind.i64 proof, Value.pointer (some { block := u3.heap.size + 1 + 1, off := 2 }), Value.tuple #[Value.agg zj, Value.agg zh, Value.int IntKind.i64 17], Value.agg #[Value.int IntKind.i64 code, Value.int IntKind.i64 a, Value.int IntKind.i64 p, Value.int IntKind.i64 0, Value.int IntKind.i64 0, Value.bool false, Value.bool false], Value.agg #[Value.int IntKind.i64 2, Value.int IntKind.i64 q, Value.int IntKind.i64 proof], Value.tuple #[Value.agg zj, Value.agg zh, Value.int IntKind.i64 17], Value.agg zj, Value.agg zh, Value.int IntKind.i64 17, Value.int IntKind.i64 17, Value.bool false, Value.int IntKind.i64 proof, Value.pointer (some { block := u3.heap.size + 1, off := 2 }), Value.int IntKind.i64 t, Value.bool true, Value.agg #[Value.int IntKind.i64 3, Value.int IntKind.i64 0, Value.int IntKind.i64 t], Value.int IntKind.i64 proof, Value.pointer (some { block := u4.heap.size + 1 + 1, off := 2 }), Value.tuple #[Value.agg zj, Value.agg zh, Value.int IntKind.i64 17], Value.agg #[Value.int IntKind.i64 code, Value.int IntKind.i64 b, Value.int IntKind.i64 q, Value.int IntKind.i64 p, Value.int IntKind.i64 0, Value.bool true, Value.bool false], Value.agg #[Value.int IntKind.i64 3, Value.int IntKind.i64 0, Value.int IntKind.i64 proof], Value.tuple #[Value.agg zj, Value.agg zh, Value.int IntKind.i64 17], Value.agg zj, Value.agg zh, Value.int IntKind.i64 17, Value.int IntKind.i64 17, Value.bool false, Value.int IntKind.i64 pub, Value.bool true, Value.bool false, Value.bool false, Value.int IntKind.i64 pub, Value.pointer (some { block := n2, off := 1 }), Value.int IntKind.i64 q, Value.bool false, Value.bool false, undef, Value.agg #[Value.int IntKind.i64 2, Value.int IntKind.i64 q, Value.int IntKind.i64 r], Value.int IntKind.i64 pub, Value.pointer (some { block := u5.heap.size + 1 + 1, off := 1 }), Value.tuple #[Value.agg zj, Value.agg zh, Value.int IntKind.i64 17], Value.agg #[Value.int IntKind.i64 code, Value.int IntKind.i64 a, Value.int IntKind.i64 p, Value.int IntKind.i64 0, Value.int IntKind.i64 0, Value.bool false, Value.bool false], Value.agg #[Value.int IntKind.i64 2, Value.int IntKind.i64 pub, Value.int IntKind.i64 r], Value.tuple #[Value.agg zj, Value.agg zh, Value.int IntKind.i64 17], Value.agg zj, Value.agg zh, Value.int IntKind.i64 17, vs 0, vs 1, vs 2, vs 3, vs 4, vs 5, vs 6, vs 7, vs 8, vs 9, vs 10, vs 11, undef, undef, undef, undef, undef, undef, undef, undef, undef, undef, undef, undef, undef], defers := [] } := ⟨_, rfl⟩
    have HLIT := Lib.hid hlit
    clear hlit
    refine region_inv (fun bf ac wv => ∃ vs : Nat → Value, ac = lit vs ∧ Below wq.heap.size wq wv ∧ ∀ i, bf i = true → Gw code a p q pub K n2 i (vs i) wv) (by kernel_rfl) (by decide +kernel) ?_ ?_ ?_
    · exact ⟨fun _ => undef, (by rw [HLIT.out]), below_drew _ _, fun i h => by cases h⟩
    · refine ⟨?_, ?_, ?_, ?_, ?_, ?_, ?_, ?_, ?_, ?_, ?_, ?_, ?_, trivial⟩
      · intro bf ac wv hfb haf hJ K' hK
        obtain ⟨vs, rfl, hM, hG⟩ := hJ
        replace hK := Lib.hid hK
        replace hM := Lib.hid hM
        clear haf
        replace hG := Lib.hid hG
        clear hfb
        rw [HLIT.out]
        go_simp
        exact hK.out _ _ ⟨upv vs 0 (.int .i64 code), (by rw [HLIT.out]; rfl), hM.out, up_g (G := Gw code a p q pub K n2) 0 hG.out (fun h => h) rfl⟩
      · intro bf ac wv hfb haf hJ K' hK
        obtain ⟨vs, rfl, hM, hG⟩ := hJ
        replace hK := Lib.hid hK
        replace hM := Lib.hid hM
        clear haf
        replace hG := Lib.hid hG
        clear hfb
        rw [HLIT.out]
        have KE1 := KE_116.out.step hM.out
        have xE0 := KE1.c 0 rfl
        have xE1 := KE1.c 1 rfl
        have xE2 := KE1.c 2 rfl
        have xE3 := KE1.c 3 rfl
        have xE4 := KE1.c 4 rfl
        have xE5 := KE1.c 5 rfl
        have xE6 := KE1.c 6 rfl
        have zE := KE1.2.2
        clear KE1
        go_simp
        exact hK.out _ _ ⟨upv vs 1 (.agg (jc code a p q K false true)), (by rw [HLIT.out]; rfl), hM.out, up_g (G := Gw code a p q pub K n2) 1 hG.out (fun h => h) rfl⟩
      · intro bf ac wv hfb haf hJ K' hK
        obtain ⟨vs, rfl, hM, hG⟩ := hJ
        replace hK := Lib.hid hK
        replace hM := Lib.hid hM
        clear haf
        replace hG := Lib.hid hG
        clear hfb
        rw [HLIT.out]
        go_simp
        exact hK.out _ _ ⟨upv vs 2 (.pointer (some ⟨n2, 1, none⟩)), (by rw [HLIT.out]; rfl), hM.out, up_g (G := Gw code a p q pub K n2) 2 hG.out (fun h => h) rfl⟩
      · intro bf ac wv hfb haf hJ K' hK
        obtain ⟨vs, rfl, hM, hG⟩ := hJ
        replace hK := Lib.hid hK
        replace hM := Lib.hid hM
        simp [Region.binds] at haf
        have e2 : vs 2 = .pointer (some ⟨n2, 1, none⟩) := hG 2 (by simp [haf])
        clear haf
        replace hG := Lib.hid hG
        clear hfb
        rw [HLIT.out]
        have KC1 := KC_115.out.step hM.out
        have xC1 := KC1.c 1 rfl
        have zC := KC1.2.2
        clear KC1
        go_simp
        exact hK.out _ _ ⟨upv vs 3 (.int .i64 q), (by rw [HLIT.out]; simp only [upv, e2, Nat.reduceBEq, cond_true, cond_false]), hM.out, up_g (G := Gw code a p q pub K n2) 3 hG.out (fun h => h) rfl⟩
      · intro bf ac wv hfb haf hJ K' hK
        obtain ⟨vs, rfl, hM, hG⟩ := hJ
        replace hK := Lib.hid hK
        replace hM := Lib.hid hM
        simp [Region.binds] at haf
        have e1 : vs 1 = .agg (jc code a p q K false true) := hG 1 (by simp [haf])
        have e3 : vs 3 = .int .i64 q := hG 3 (by simp [haf])
        clear haf
        replace hG := Lib.hid hG
        clear hfb
        rw [HLIT.out]
        go_simp
        go_at_call 19
        refine (numbers_any code a p q K false true q 1 wv).mono ?_
        rintro e w4 ⟨x, rfl, hI, b4⟩
        exact hK.out _ _ ⟨upv vs 4 x, (by rw [HLIT.out]; simp only [upv, e1, e3, Nat.reduceBEq, cond_true, cond_false]), (keep2 b4 hM.out), up_g (G := Gw code a p q pub K n2) 4 hG.out (Gw.step b4) hI⟩
      · intro bf ac wv hfb haf hJ K' hK
        obtain ⟨vs, rfl, hM, hG⟩ := hJ
        replace hK := Lib.hid hK
        replace hM := Lib.hid hM
        simp [Region.binds] at haf
        have e0 : vs 0 = .int .i64 code := hG 0 (by simp [haf])
        have i4 := hG 4 (by simp [haf])
        clear haf
        replace hG := Lib.hid hG
        clear hfb
        rw [HLIT.out]
        go_simp
        go_at_call 18
        refine (rtagged_any code (vs 4) _ wv i4 (by rw [nums_len]; omega) (by unfold nums; simp)).mono ?_
        rintro e w4 ⟨x, rfl, hI, b4⟩
        exact hK.out _ _ ⟨upv vs 5 x, (by rw [HLIT.out]; simp only [upv, e0, Nat.reduceBEq, cond_true, cond_false]), (keep2 b4 hM.out), up_g (G := Gw code a p q pub K n2) 5 hG.out (Gw.step b4) hI⟩
      · intro bf ac wv hfb haf hJ K' hK
        obtain ⟨vs, rfl, hM, hG⟩ := hJ
        replace hK := Lib.hid hK
        replace hM := Lib.hid hM
        clear haf
        replace hG := Lib.hid hG
        clear hfb
        rw [HLIT.out]
        go_simp
        exact hK.out _ _ ⟨upv vs 6 (.int .i64 code), (by rw [HLIT.out]; rfl), hM.out, up_g (G := Gw code a p q pub K n2) 6 hG.out (fun h => h) rfl⟩
      · intro bf ac wv hfb haf hJ K' hK
        obtain ⟨vs, rfl, hM, hG⟩ := hJ
        replace hK := Lib.hid hK
        replace hM := Lib.hid hM
        clear haf
        replace hG := Lib.hid hG
        clear hfb
        rw [HLIT.out]
        have KE1 := KE_116.out.step hM.out
        have xE0 := KE1.c 0 rfl
        have xE1 := KE1.c 1 rfl
        have xE2 := KE1.c 2 rfl
        have xE3 := KE1.c 3 rfl
        have xE4 := KE1.c 4 rfl
        have xE5 := KE1.c 5 rfl
        have xE6 := KE1.c 6 rfl
        have zE := KE1.2.2
        clear KE1
        go_simp
        exact hK.out _ _ ⟨upv vs 7 (.agg (jc code a p q K false true)), (by rw [HLIT.out]; rfl), hM.out, up_g (G := Gw code a p q pub K n2) 7 hG.out (fun h => h) rfl⟩
      · intro bf ac wv hfb haf hJ K' hK
        obtain ⟨vs, rfl, hM, hG⟩ := hJ
        replace hK := Lib.hid hK
        replace hM := Lib.hid hM
        clear haf
        replace hG := Lib.hid hG
        clear hfb
        rw [HLIT.out]
        go_simp
        exact hK.out _ _ ⟨upv vs 8 (.int .i64 pub), (by rw [HLIT.out]; rfl), hM.out, up_g (G := Gw code a p q pub K n2) 8 hG.out (fun h => h) rfl⟩
      · intro bf ac wv hfb haf hJ K' hK
        obtain ⟨vs, rfl, hM, hG⟩ := hJ
        replace hK := Lib.hid hK
        replace hM := Lib.hid hM
        simp [Region.binds] at haf
        have e7 : vs 7 = .agg (jc code a p q K false true) := hG 7 (by simp [haf])
        have e8 : vs 8 = .int .i64 pub := hG 8 (by simp [haf])
        clear haf
        replace hG := Lib.hid hG
        clear hfb
        rw [HLIT.out]
        go_simp
        go_at_call 19
        refine (numbers_any code a p q K false true pub 1 wv).mono ?_
        rintro e w4 ⟨x, rfl, hI, b4⟩
        exact hK.out _ _ ⟨upv vs 9 x, (by rw [HLIT.out]; simp only [upv, e7, e8, Nat.reduceBEq, cond_true, cond_false]), (keep2 b4 hM.out), up_g (G := Gw code a p q pub K n2) 9 hG.out (Gw.step b4) hI⟩
      · intro bf ac wv hfb haf hJ K' hK
        obtain ⟨vs, rfl, hM, hG⟩ := hJ
        replace hK := Lib.hid hK
        replace hM := Lib.hid hM
        simp [Region.binds] at haf
        have e6 : vs 6 = .int .i64 code := hG 6 (by simp [haf])
        have i9 := hG 9 (by simp [haf])
        clear haf
        replace hG := Lib.hid hG
        clear hfb
        rw [HLIT.out]
        go_simp
        go_at_call 18
        refine (rtagged_any code (vs 9) _ wv i9 (by rw [nums_len]; omega) (by unfold nums; simp)).mono ?_
        rintro e w4 ⟨x, rfl, hI, b4⟩
        exact hK.out _ _ ⟨upv vs 10 x, (by rw [HLIT.out]; simp only [upv, e6, Nat.reduceBEq, cond_true, cond_false]), (keep2 b4 hM.out), up_g (G := Gw code a p q pub K n2) 10 hG.out (Gw.step b4) hI⟩
      · intro bf ac wv hfb haf hJ K' hK
        obtain ⟨vs, rfl, hM, hG⟩ := hJ
        replace hK := Lib.hid hK
        replace hM := Lib.hid hM
        simp [Region.binds] at haf
        have i5 := hG 5 (by simp [haf])
        have i10 := hG 10 (by simp [haf])
        clear haf
        replace hG := Lib.hid hG
        clear hfb
        obtain ⟨a5, c5, q5, _⟩ := id i5
        obtain ⟨a6, c6, q6, _⟩ := id i10
        replace q5 : vs 5 = .slice a5 6 c5 := q5
        replace q6 : vs 10 = .slice a6 6 c6 := q6
        replace i5 := Lib.hid i5
        replace i10 := Lib.hid i10
        rw [HLIT.out]
        go_simp
        exact hK.out _ _ ⟨upv vs 11 (.slice (some ⟨wv.heap.size, 0, none⟩) 2 2), (by rw [HLIT.out]; simp only [upv, q5, q6, Nat.reduceBEq, cond_true, cond_false]), (keep2 (al _ _) hM.out), up_g (G := Gw code a p q pub K n2) 11 hG.out (Gw.step (al _ _)) (two_alloc wv _ _ _ _ _ (q5 ▸ i5.out) (q6 ▸ i10.out))⟩
      · intro bf ac wv hfb haf hJ K' hK
        obtain ⟨vs, rfl, hM, hG⟩ := hJ
        replace hK := Lib.hid hK
        replace hM := Lib.hid hM
        simp [Region.binds] at haf
        have i11 := hG 11 (by simp [haf])
        clear haf
        replace hG := Lib.hid hG
        clear hfb
        obtain ⟨B, v1, v2, e11, r⟩ := i11
        replace r := Lib.hid r
        rw [HLIT.out]
        go_simp
        exact hK.out _ _ ⟨upv vs 12 (.slice (some ⟨B, 0, none⟩) 2 2), (by rw [HLIT.out]; simp only [upv, e11, Nat.reduceBEq, cond_true, cond_false]), hM.out, up_g (G := Gw code a p q pub K n2) 12 hG.out (fun h => h) ⟨B, v1, v2, rfl, r.out⟩⟩
    · intro bf ac wv hall hJ
      obtain ⟨vs, rfl, hM, hG⟩ := hJ
      obtain ⟨B, v1, v2, e12, c0, c1, i1, i2⟩ := hG 12 (hall 12 (by decide))
      have HB9 := Lib.hid (keep2 hM HB118.out)
      clear hM hall hG
      rw [HLIT.out]
      replace c0 := Lib.hid c0
      replace c1 := Lib.hid c1
      replace i1 := Lib.hid i1
      replace i2 := Lib.hid i2
      go_wp2
      go_ret
      exact ⟨rfl, HB9.out⟩
end Go.Proofs.Ytoggmladiakblaa
