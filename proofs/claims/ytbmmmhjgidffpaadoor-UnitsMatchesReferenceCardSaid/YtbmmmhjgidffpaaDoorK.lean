/- The walk of 'UnitsSeconds'. -/
import Derived.Test.YtbmmmhjgidffpaaDoorI
import Derived.Test.YtbmmmhjgidffpaaDoorH
namespace Go.Proofs.YtbmmmhjgidffpaaDoor
open Go.RowKit

theorem sec_s (K : Int) (h1 : -100000000 ≤ K) (h2 : K ≤ 100000000) : sE (10 * K) ⟨#[115]⟩ = 0 ∧ sV (10 * K) ⟨#[115]⟩ = K := by
  have := sec_of 4 (by omega) rfl K h1 h2
  exact ⟨this.1, this.2.trans (Int.mul_one K)⟩
theorem sec_min (K : Int) (h1 : -100000000 ≤ K) (h2 : K ≤ 100000000) : sE (10 * K) ⟨#[109, 105, 110]⟩ = 0 ∧ sV (10 * K) ⟨#[109, 105, 110]⟩ = 60 * K := by
  have := sec_of 3 (by omega) rfl K h1 h2
  exact ⟨this.1, this.2.trans (Int.mul_comm K 60)⟩
theorem sec_h (K : Int) (h1 : -100000000 ≤ K) (h2 : K ≤ 100000000) : sE (10 * K) ⟨#[104]⟩ = 0 ∧ sV (10 * K) ⟨#[104]⟩ = 3600 * K := by
  have := sec_of 2 (by omega) rfl K h1 h2
  exact ⟨this.1, this.2.trans (Int.mul_comm K 3600)⟩
theorem i32_bd {n : Int} (h : (Lit.int .i32 n).wf = true) : -2147483648 ≤ n ∧ n ≤ 2147483647 := by
  have := h
  simp [Lit.wf, IntKind.min, IntKind.max, IntKind.bits, IntKind.signed] at this
  omega
theorem tmod_bd (n : Int) : -100000000 ≤ n.tmod 100000001 ∧ n.tmod 100000001 ≤ 100000000 := by
  by_cases h : 0 ≤ n
  · rw [Int.tmod_eq_emod_of_nonneg h]; omega
  · have : n.tmod 100000001 = -((-n) % 100000001) := by rw [← Int.tmod_eq_emod_of_nonneg (by omega), Int.neg_tmod, Int.neg_neg]
    omega
theorem sV_bd (t : Int) (s : ByteArray) : -3600000000000 ≤ sV t s ∧ sV t s ≤ 3600000000000 := by
  have hb := bV_bd t s
  unfold sV
  split
  · have := tdiv_le (bV t s) 10 (by omega)
    by_cases h : 0 ≤ bV t s
    · have := this.1 h; omega
    · have := this.2 (by omega); omega
  · omega
set_option maxRecDepth 100000 in
set_option maxHeartbeats 8000000 in
theorem seconds_walk (t1 : Int) (s1 : ByteArray) (t2 : Int) (s2 : ByteArray) (n : Int) (w : World) (hT : Tab w) (m1 : s1.size ≤ maxLen) (m2 : s2.size ≤ maxLen) (hw : (Lit.int .i32 n).wf = true) :
    Calls Tryd.prog 8 #[.agg #[.int .i64 t1, .string s1], .agg #[.int .i64 t2, .string s2], .int .i32 n] w fun e w' => e = .returned (.bool true) ∧ Below w.heap.size w w' := by
  have HT0 := Lib.hid ((hT.alloc (.cells #[.int .i64 t1, .string s1] 23)).alloc (.cells #[.int .i64 t2, .string s2] 23))
  have Kx_0 := Lib.hid ((QAt.new w t1 s1 23 w.heap.size rfl).alloc (.cells #[.int .i64 t2, .string s2] 23))
  have Ky_0 := Lib.hid (QAt.new (w.alloc (.cells #[.int .i64 t1, .string s1] 23)) t2 s2 23 (w.heap.size + 1) (by simp))
  have HB0 := Lib.hid (below_two w (.cells #[.int .i64 t1, .string s1] 23) (.cells #[.int .i64 t2, .string s2] 23))
  have hn := i32_bd hw
  obtain ⟨hn1, hn2⟩ := hn
  have hk := tmod_bd n
  obtain ⟨K, hK⟩ : ∃ K, n.tmod 100000001 = K := ⟨_, rfl⟩
  rw [hK] at hk
  obtain ⟨hk1, hk2⟩ := hk
  have HS := Lib.hid (sec_s K hk1 hk2)
  have HM := Lib.hid (sec_min K hk1 hk2)
  have HH := Lib.hid (sec_h K hk1 hk2)
  clear hw
  go_enter Tryd.func8, Tryd.ntmps8
  go_wp2_with fail
  refine (head_any _ HT0.out).mono ?_
  rintro e u1 ⟨rfl, b1⟩
  have Kx_1 := Lib.hid (Kx_0.out.step b1)
  have Ky_1 := Lib.hid (Ky_0.out.step b1)
  clear Kx_0 Ky_0
  have HT1 := Lib.hid (HT0.out.below b1 HT0.out.pos)
  have HB1 := Lib.hid (keep2 b1 HB0.out)
  clear b1 HT0 HB0
  obtain ⟨⟨xx, yx⟩, zx⟩ := Kx_1.out.lay
  obtain ⟨⟨xy, yy⟩, zy⟩ := Ky_1.out.lay
  go_wp2_with fail
  refine (short_any t1 s1 t2 s2 _ m1 m2).mono ?_
  rintro e u2 ⟨rfl, b2⟩
  clear xx yx zx xy yy zy
  have Kx_2 := Lib.hid (Kx_1.out.step b2)
  have Ky_2 := Lib.hid (Ky_1.out.step b2)
  clear Kx_1 Ky_1
  have HT2 := Lib.hid (HT1.out.below b2 HT1.out.pos)
  have HB2 := Lib.hid (keep2 b2 HB1.out)
  clear b2 HT1 HB1
  obtain ⟨⟨xx, yx⟩, zx⟩ := Kx_2.out.lay
  obtain ⟨⟨xy, yy⟩, zy⟩ := Ky_2.out.lay
  cases h1 : sh s1 s2
  · go_wp2_with fail
    go_ret
    exact ⟨rfl, HB2.out⟩
  · go_wp2_with fail
    refine (q_any _ _ _).mono ?_
    rintro e u3 ⟨rfl, b3⟩
    clear xx yx zx xy yy zy
    have Kx_3 := Lib.hid (Kx_2.out.step b3)
    have Ky_3 := Lib.hid (Ky_2.out.step b3)
    clear Kx_2 Ky_2
    have HT3 := Lib.hid (HT2.out.below b3 HT2.out.pos)
    have HB3 := Lib.hid (keep2 b3 HB2.out)
    clear b3 HT2 HB2
    obtain ⟨⟨xx, yx⟩, zx⟩ := Kx_3.out.lay
    obtain ⟨⟨xy, yy⟩, zy⟩ := Ky_3.out.lay
    go_wp2_with fail
    refine (seconds_any (10 * K) _ _ HT3.out).mono ?_
    rintro e u4 ⟨rfl, b4⟩
    clear xx yx zx xy yy zy
    have Kx_4 := Lib.hid (Kx_3.out.step b4)
    have Ky_4 := Lib.hid (Ky_3.out.step b4)
    clear Kx_3 Ky_3
    have HT4 := Lib.hid (HT3.out.below b4 HT3.out.pos)
    have HB4 := Lib.hid (keep2 b4 HB3.out)
    clear b4 HT3 HB3
    obtain ⟨⟨xx, yx⟩, zx⟩ := Kx_4.out.lay
    obtain ⟨⟨xy, yy⟩, zy⟩ := Ky_4.out.lay
    rw [HS.out.1, HS.out.2]
    go_wp2_with fail
    refine (q_any _ _ _).mono ?_
    rintro e u5 ⟨rfl, b5⟩
    clear xx yx zx xy yy zy
    have Kx_5 := Lib.hid (Kx_4.out.step b5)
    have Ky_5 := Lib.hid (Ky_4.out.step b5)
    clear Kx_4 Ky_4
    have HT5 := Lib.hid (HT4.out.below b5 HT4.out.pos)
    have HB5 := Lib.hid (keep2 b5 HB4.out)
    clear b5 HT4 HB4
    obtain ⟨⟨xx, yx⟩, zx⟩ := Kx_5.out.lay
    obtain ⟨⟨xy, yy⟩, zy⟩ := Ky_5.out.lay
    go_wp2_with fail
    refine (seconds_any (10 * K) _ _ HT5.out).mono ?_
    rintro e u6 ⟨rfl, b6⟩
    clear xx yx zx xy yy zy
    have Kx_6 := Lib.hid (Kx_5.out.step b6)
    have Ky_6 := Lib.hid (Ky_5.out.step b6)
    clear Kx_5 Ky_5
    have HT6 := Lib.hid (HT5.out.below b6 HT5.out.pos)
    have HB6 := Lib.hid (keep2 b6 HB5.out)
    clear b6 HT5 HB5
    obtain ⟨⟨xx, yx⟩, zx⟩ := Kx_6.out.lay
    obtain ⟨⟨xy, yy⟩, zy⟩ := Ky_6.out.lay
    rw [HM.out.1, HM.out.2]
    go_wp2_with fail
    refine (q_any _ _ _).mono ?_
    rintro e u7 ⟨rfl, b7⟩
    clear xx yx zx xy yy zy
    have Kx_7 := Lib.hid (Kx_6.out.step b7)
    have Ky_7 := Lib.hid (Ky_6.out.step b7)
    clear Kx_6 Ky_6
    have HT7 := Lib.hid (HT6.out.below b7 HT6.out.pos)
    have HB7 := Lib.hid (keep2 b7 HB6.out)
    clear b7 HT6 HB6
    obtain ⟨⟨xx, yx⟩, zx⟩ := Kx_7.out.lay
    obtain ⟨⟨xy, yy⟩, zy⟩ := Ky_7.out.lay
    go_wp2_with fail
    refine (seconds_any (10 * K) _ _ HT7.out).mono ?_
    rintro e u8 ⟨rfl, b8⟩
    clear xx yx zx xy yy zy
    have Kx_8 := Lib.hid (Kx_7.out.step b8)
    have Ky_8 := Lib.hid (Ky_7.out.step b8)
    clear Kx_7 Ky_7
    have HT8 := Lib.hid (HT7.out.below b8 HT7.out.pos)
    have HB8 := Lib.hid (keep2 b8 HB7.out)
    clear b8 HT7 HB7
    obtain ⟨⟨xx, yx⟩, zx⟩ := Kx_8.out.lay
    obtain ⟨⟨xy, yy⟩, zy⟩ := Ky_8.out.lay
    rw [HH.out.1, HH.out.2]
    go_wp2_with fail
    refine (seconds_any t1 s1 _ HT8.out).mono ?_
    rintro e u9 ⟨rfl, b9⟩
    clear xx yx zx xy yy zy
    have Kx_9 := Lib.hid (Kx_8.out.step b9)
    have Ky_9 := Lib.hid (Ky_8.out.step b9)
    clear Kx_8 Ky_8
    have HT9 := Lib.hid (HT8.out.below b9 HT8.out.pos)
    have HB9 := Lib.hid (keep2 b9 HB8.out)
    clear b9 HT8 HB8
    obtain ⟨⟨xx, yx⟩, zx⟩ := Kx_9.out.lay
    obtain ⟨⟨xy, yy⟩, zy⟩ := Ky_9.out.lay
    go_wp2_with fail
    refine (seconds_any t2 s2 _ HT9.out).mono ?_
    rintro e u10 ⟨rfl, b10⟩
    clear xx yx zx xy yy zy
    have Kx_10 := Lib.hid (Kx_9.out.step b10)
    have Ky_10 := Lib.hid (Ky_9.out.step b10)
    clear Kx_9 Ky_9
    have HT10 := Lib.hid (HT9.out.below b10 HT9.out.pos)
    have HB10 := Lib.hid (keep2 b10 HB9.out)
    clear b10 HT9 HB9
    obtain ⟨⟨xx, yx⟩, zx⟩ := Kx_10.out.lay
    obtain ⟨⟨xy, yy⟩, zy⟩ := Ky_10.out.lay
    go_wp2_with fail
    refine (add_any t1 s1 t2 s2 _ HT10.out).mono ?_
    rintro e u11 ⟨rfl, b11⟩
    clear xx yx zx xy yy zy
    have Kx_11 := Lib.hid (Kx_10.out.step b11)
    have Ky_11 := Lib.hid (Ky_10.out.step b11)
    clear Kx_10 Ky_10
    have HT11 := Lib.hid (HT10.out.below b11 HT10.out.pos)
    have HB11 := Lib.hid (keep2 b11 HB10.out)
    clear b11 HT10 HB10
    obtain ⟨⟨xx, yx⟩, zx⟩ := Kx_11.out.lay
    obtain ⟨⟨xy, yy⟩, zy⟩ := Ky_11.out.lay
    by_cases hi : sE t1 s1 = 0
    · have HI := Lib.hid hi
      rw [hi]
      clear hi
      by_cases hl : sE t2 s2 = 0
      · have HL := Lib.hid hl
        rw [hl]
        clear hl
        by_cases ho : dE t1 s1 t2 s2 = 0
        · have HC := Lib.hid (seconds_sum HI.out HL.out ho)
          rw [ho]
          clear ho
          have hv1 := sV_bd t1 s1
          have hv2 := sV_bd t2 s2
          obtain ⟨hv11, hv12⟩ := hv1
          obtain ⟨hv21, hv22⟩ := hv2
          go_wp2_with fail
          refine (seconds_any (dT t1 s1 t2 s2) (dS t1 s1 t2 s2) _ (HT11.out.alloc _)).mono ?_
          rintro e u12 ⟨rfl, b12⟩
          have Ka_12 := Lib.hid (QAt.made b12)
          have b12 := bl1 b12
          clear xx yx zx xy yy zy
          have Kx_12 := Lib.hid (Kx_11.out.step b12)
          have Ky_12 := Lib.hid (Ky_11.out.step b12)
          clear Kx_11 Ky_11
          have HT12 := Lib.hid (HT11.out.below b12 HT11.out.pos)
          have HB12 := Lib.hid (keep2 b12 HB11.out)
          clear b12 HT11 HB11
          obtain ⟨⟨xx, yx⟩, zx⟩ := Kx_12.out.lay
          obtain ⟨⟨xy, yy⟩, zy⟩ := Ky_12.out.lay
          obtain ⟨⟨xa, ya⟩, za⟩ := Ka_12.out.lay
          rw [HC.out.1, HC.out.2]
          go_wp2_with fail
          go_ret
          exact ⟨rfl, HB12.out⟩
        · have q1 : (dE t1 s1 t2 s2 != 0) = true := by simpa using ho
          clear ho
          go_wp2_with fail
          go_ret
          exact ⟨rfl, (HB11.out.alloc HB11.out.size _)⟩
      · have q1 : (sE t2 s2 != 0) = true := by simpa using hl
        clear hl
        go_wp2_with fail
        go_ret
        exact ⟨rfl, (HB11.out.alloc HB11.out.size _)⟩
    · have q1 : (sE t1 s1 != 0) = true := by simpa using hi
      clear hi
      go_wp2_with fail
      go_ret
      exact ⟨rfl, (HB11.out.alloc HB11.out.size _)⟩
end Go.Proofs.YtbmmmhjgidffpaaDoor
