/- The walk of 'UnitsSums'. -/
import Derived.Test.YtbmmmhjgidffpaaDoorI
import Derived.Test.YtbmmmhjgidffpaaDoorH
namespace Go.Proofs.YtbmmmhjgidffpaaDoor
open Go.RowKit

set_option maxRecDepth 100000 in
set_option maxHeartbeats 8000000 in
theorem sums_walk (t1 : Int) (s1 : ByteArray) (t2 : Int) (s2 : ByteArray) (t3 : Int) (s3 : ByteArray) (w : World) (hT : Tab w) (m1 : s1.size ≤ maxLen) (m2 : s2.size ≤ maxLen) (m3 : s3.size ≤ maxLen) :
    Calls Tryd.prog 7 #[.agg #[.int .i64 t1, .string s1], .agg #[.int .i64 t2, .string s2], .agg #[.int .i64 t3, .string s3]] w fun e w' => e = .returned (.bool true) ∧ Below w.heap.size w w' := by
  have HT0 := Lib.hid (((hT.alloc (.cells #[.int .i64 t1, .string s1] 23)).alloc (.cells #[.int .i64 t2, .string s2] 23)).alloc (.cells #[.int .i64 t3, .string s3] 23))
  have Kx_0 := Lib.hid (((QAt.new w t1 s1 23 w.heap.size rfl).alloc (.cells #[.int .i64 t2, .string s2] 23)).alloc (.cells #[.int .i64 t3, .string s3] 23))
  have Ky_0 := Lib.hid ((QAt.new (w.alloc (.cells #[.int .i64 t1, .string s1] 23)) t2 s2 23 (w.heap.size + 1) (by simp)).alloc (.cells #[.int .i64 t3, .string s3] 23))
  have Kz_0 := Lib.hid (QAt.new ((w.alloc (.cells #[.int .i64 t1, .string s1] 23)).alloc (.cells #[.int .i64 t2, .string s2] 23)) t3 s3 23 (w.heap.size + 1 + 1) (by simp))
  have HB0 := Lib.hid (below_three w (.cells #[.int .i64 t1, .string s1] 23) (.cells #[.int .i64 t2, .string s2] 23) (.cells #[.int .i64 t3, .string s3] 23))
  go_enter Tryd.func7, Tryd.ntmps7
  go_wp2_with fail
  refine (head_any _ HT0.out).mono ?_
  rintro e u1 ⟨rfl, b1⟩
  have Kx_1 := Lib.hid (Kx_0.out.step b1)
  have Ky_1 := Lib.hid (Ky_0.out.step b1)
  have Kz_1 := Lib.hid (Kz_0.out.step b1)
  clear Kx_0 Ky_0 Kz_0
  have HT1 := Lib.hid (HT0.out.below b1 HT0.out.pos)
  have HB1 := Lib.hid (keep2 b1 HB0.out)
  clear b1 HT0 HB0
  obtain ⟨⟨xx, yx⟩, zx⟩ := Kx_1.out.lay
  obtain ⟨⟨xy, yy⟩, zy⟩ := Ky_1.out.lay
  obtain ⟨⟨xz, yz⟩, zz⟩ := Kz_1.out.lay
  go_wp2_with fail
  refine (short_any t1 s1 t2 s2 _ m1 m2).mono ?_
  rintro e u2 ⟨rfl, b2⟩
  clear xx yx zx xy yy zy xz yz zz
  have Kx_2 := Lib.hid (Kx_1.out.step b2)
  have Ky_2 := Lib.hid (Ky_1.out.step b2)
  have Kz_2 := Lib.hid (Kz_1.out.step b2)
  clear Kx_1 Ky_1 Kz_1
  have HT2 := Lib.hid (HT1.out.below b2 HT1.out.pos)
  have HB2 := Lib.hid (keep2 b2 HB1.out)
  clear b2 HT1 HB1
  obtain ⟨⟨xx, yx⟩, zx⟩ := Kx_2.out.lay
  obtain ⟨⟨xy, yy⟩, zy⟩ := Ky_2.out.lay
  obtain ⟨⟨xz, yz⟩, zz⟩ := Kz_2.out.lay
  cases h1 : sh s1 s2
  · go_wp2_with fail
    go_ret
    exact ⟨rfl, HB2.out⟩
  · go_wp2_with fail
    refine (short_any t3 s3 t3 s3 _ m3 m3).mono ?_
    rintro e u3 ⟨rfl, b3⟩
    clear xx yx zx xy yy zy xz yz zz
    have Kx_3 := Lib.hid (Kx_2.out.step b3)
    have Ky_3 := Lib.hid (Ky_2.out.step b3)
    have Kz_3 := Lib.hid (Kz_2.out.step b3)
    clear Kx_2 Ky_2 Kz_2
    have HT3 := Lib.hid (HT2.out.below b3 HT2.out.pos)
    have HB3 := Lib.hid (keep2 b3 HB2.out)
    clear b3 HT2 HB2
    obtain ⟨⟨xx, yx⟩, zx⟩ := Kx_3.out.lay
    obtain ⟨⟨xy, yy⟩, zy⟩ := Ky_3.out.lay
    obtain ⟨⟨xz, yz⟩, zz⟩ := Kz_3.out.lay
    cases h2 : sh s3 s3
    · go_wp2_with fail
      go_ret
      exact ⟨rfl, HB3.out⟩
    · go_wp2_with fail
      refine (add_any t1 s1 t2 s2 _ HT3.out).mono ?_
      rintro e u4 ⟨rfl, b4⟩
      clear xx yx zx xy yy zy xz yz zz
      have Kx_4 := Lib.hid (Kx_3.out.step b4)
      have Ky_4 := Lib.hid (Ky_3.out.step b4)
      have Kz_4 := Lib.hid (Kz_3.out.step b4)
      clear Kx_3 Ky_3 Kz_3
      have HT4 := Lib.hid (HT3.out.below b4 HT3.out.pos)
      have HB4 := Lib.hid (keep2 b4 HB3.out)
      clear b4 HT3 HB3
      obtain ⟨⟨xx, yx⟩, zx⟩ := Kx_4.out.lay
      obtain ⟨⟨xy, yy⟩, zy⟩ := Ky_4.out.lay
      obtain ⟨⟨xz, yz⟩, zz⟩ := Kz_4.out.lay
      go_wp2_with fail
      refine (add_any t2 s2 t1 s1 _ (HT4.out.alloc _)).mono ?_
      rintro e u5 ⟨rfl, b5⟩
      have Ka_5 := Lib.hid (QAt.made b5)
      have b5 := bl1 b5
      clear xx yx zx xy yy zy xz yz zz
      have Kx_5 := Lib.hid (Kx_4.out.step b5)
      have Ky_5 := Lib.hid (Ky_4.out.step b5)
      have Kz_5 := Lib.hid (Kz_4.out.step b5)
      clear Kx_4 Ky_4 Kz_4
      have HT5 := Lib.hid (HT4.out.below b5 HT4.out.pos)
      have HB5 := Lib.hid (keep2 b5 HB4.out)
      clear b5 HT4 HB4
      obtain ⟨⟨xx, yx⟩, zx⟩ := Kx_5.out.lay
      obtain ⟨⟨xy, yy⟩, zy⟩ := Ky_5.out.lay
      obtain ⟨⟨xz, yz⟩, zz⟩ := Kz_5.out.lay
      obtain ⟨⟨xa, ya⟩, za⟩ := Ka_5.out.lay
      by_cases he : dE t1 s1 t2 s2 = 0
      · have hc := dE_comm_yes he
        rw [hc.1, hc.2.1, hc.2.2, he]
        have HE := Lib.hid he
        clear he hc
        go_wp2_with fail
        refine (add_any t2 s2 t3 s3 _ (HT5.out.alloc _)).mono ?_
        rintro e u6 ⟨rfl, b6⟩
        have Kb_6 := Lib.hid (QAt.made b6)
        have b6 := bl1 b6
        clear xx yx zx xy yy zy xz yz zz xa ya za
        have Kx_6 := Lib.hid (Kx_5.out.step b6)
        have Ky_6 := Lib.hid (Ky_5.out.step b6)
        have Kz_6 := Lib.hid (Kz_5.out.step b6)
        have Ka_6 := Lib.hid (Ka_5.out.step b6)
        clear Kx_5 Ky_5 Kz_5 Ka_5
        have HT6 := Lib.hid (HT5.out.below b6 HT5.out.pos)
        have HB6 := Lib.hid (keep2 b6 HB5.out)
        clear b6 HT5 HB5
        obtain ⟨⟨xx, yx⟩, zx⟩ := Kx_6.out.lay
        obtain ⟨⟨xy, yy⟩, zy⟩ := Ky_6.out.lay
        obtain ⟨⟨xz, yz⟩, zz⟩ := Kz_6.out.lay
        obtain ⟨⟨xa, ya⟩, za⟩ := Ka_6.out.lay
        obtain ⟨⟨xb, yb⟩, zb⟩ := Kb_6.out.lay
        by_cases hg : dE t2 s2 t3 s3 = 0
        · have HG := Lib.hid hg
          rw [hg]
          clear hg
          go_wp2_with fail
          refine (add_any (dT t1 s1 t2 s2) (dS t1 s1 t2 s2) t3 s3 _ (HT6.out.alloc _)).mono ?_
          rintro e u7 ⟨rfl, b7⟩
          have Kc_7 := Lib.hid (QAt.made b7)
          have b7 := bl1 b7
          clear xx yx zx xy yy zy xz yz zz xa ya za xb yb zb
          have Kx_7 := Lib.hid (Kx_6.out.step b7)
          have Ky_7 := Lib.hid (Ky_6.out.step b7)
          have Kz_7 := Lib.hid (Kz_6.out.step b7)
          have Ka_7 := Lib.hid (Ka_6.out.step b7)
          have Kb_7 := Lib.hid (Kb_6.out.step b7)
          clear Kx_6 Ky_6 Kz_6 Ka_6 Kb_6
          have HT7 := Lib.hid (HT6.out.below b7 HT6.out.pos)
          have HB7 := Lib.hid (keep2 b7 HB6.out)
          clear b7 HT6 HB6
          obtain ⟨⟨xx, yx⟩, zx⟩ := Kx_7.out.lay
          obtain ⟨⟨xy, yy⟩, zy⟩ := Ky_7.out.lay
          obtain ⟨⟨xz, yz⟩, zz⟩ := Kz_7.out.lay
          obtain ⟨⟨xa, ya⟩, za⟩ := Ka_7.out.lay
          obtain ⟨⟨xb, yb⟩, zb⟩ := Kb_7.out.lay
          obtain ⟨⟨xc, yc⟩, zc⟩ := Kc_7.out.lay
          go_wp2_with fail
          refine (add_any t1 s1 (dT t2 s2 t3 s3) (dS t2 s2 t3 s3) _ (HT7.out.alloc _)).mono ?_
          rintro e u8 ⟨rfl, b8⟩
          have Kl_8 := Lib.hid (QAt.made b8)
          have b8 := bl1 b8
          clear xx yx zx xy yy zy xz yz zz xa ya za xb yb zb xc yc zc
          have Kx_8 := Lib.hid (Kx_7.out.step b8)
          have Ky_8 := Lib.hid (Ky_7.out.step b8)
          have Kz_8 := Lib.hid (Kz_7.out.step b8)
          have Ka_8 := Lib.hid (Ka_7.out.step b8)
          have Kb_8 := Lib.hid (Kb_7.out.step b8)
          have Kc_8 := Lib.hid (Kc_7.out.step b8)
          clear Kx_7 Ky_7 Kz_7 Ka_7 Kb_7 Kc_7
          have HT8 := Lib.hid (HT7.out.below b8 HT7.out.pos)
          have HB8 := Lib.hid (keep2 b8 HB7.out)
          clear b8 HT7 HB7
          obtain ⟨⟨xx, yx⟩, zx⟩ := Kx_8.out.lay
          obtain ⟨⟨xy, yy⟩, zy⟩ := Ky_8.out.lay
          obtain ⟨⟨xz, yz⟩, zz⟩ := Kz_8.out.lay
          obtain ⟨⟨xa, ya⟩, za⟩ := Ka_8.out.lay
          obtain ⟨⟨xb, yb⟩, zb⟩ := Kb_8.out.lay
          obtain ⟨⟨xc, yc⟩, zc⟩ := Kc_8.out.lay
          obtain ⟨⟨xl, yl⟩, zl⟩ := Kl_8.out.lay
          by_cases hh : dE (dT t1 s1 t2 s2) (dS t1 s1 t2 s2) t3 s3 = 0
          · by_cases hi : dE t1 s1 (dT t2 s2 t3 s3) (dS t2 s2 t3 s3) = 0
            · have hs := sums_assoc HE.out HG.out hh hi
              rw [← hs.1, ← hs.2, hi]
              have q0 : (dE (dT t1 s1 t2 s2) (dS t1 s1 t2 s2) t3 s3 == 0) = true := by simpa using hh
              clear hh hi hs
              go_wp2_with fail
              refine (add_any t1 s1 t3 s3 _ (HT8.out.alloc _)).mono ?_
              rintro e u9 ⟨rfl, b9⟩
              have Kr_9 := Lib.hid (QAt.made b9)
              have b9 := bl1 b9
              clear xx yx zx xy yy zy xz yz zz xa ya za xb yb zb xc yc zc xl yl zl
              have Kx_9 := Lib.hid (Kx_8.out.step b9)
              have Ky_9 := Lib.hid (Ky_8.out.step b9)
              have Kz_9 := Lib.hid (Kz_8.out.step b9)
              have Ka_9 := Lib.hid (Ka_8.out.step b9)
              have Kb_9 := Lib.hid (Kb_8.out.step b9)
              have Kc_9 := Lib.hid (Kc_8.out.step b9)
              have Kl_9 := Lib.hid (Kl_8.out.step b9)
              clear Kx_8 Ky_8 Kz_8 Ka_8 Kb_8 Kc_8 Kl_8
              have HT9 := Lib.hid (HT8.out.below b9 HT8.out.pos)
              have HB9 := Lib.hid (keep2 b9 HB8.out)
              clear b9 HT8 HB8
              obtain ⟨⟨xx, yx⟩, zx⟩ := Kx_9.out.lay
              obtain ⟨⟨xy, yy⟩, zy⟩ := Ky_9.out.lay
              obtain ⟨⟨xz, yz⟩, zz⟩ := Kz_9.out.lay
              obtain ⟨⟨xa, ya⟩, za⟩ := Ka_9.out.lay
              obtain ⟨⟨xb, yb⟩, zb⟩ := Kb_9.out.lay
              obtain ⟨⟨xc, yc⟩, zc⟩ := Kc_9.out.lay
              obtain ⟨⟨xl, yl⟩, zl⟩ := Kl_9.out.lay
              obtain ⟨⟨xr, yr⟩, zr⟩ := Kr_9.out.lay
              go_wp2_with fail
              refine (compare_any t1 s1 t2 s2 _ (HT9.out.alloc _)).mono ?_
              rintro e u10 ⟨rfl, b10⟩
              have Ku_10 := Lib.hid (QAt.made b10)
              have b10 := bl1 b10
              clear xx yx zx xy yy zy xz yz zz xa ya za xb yb zb xc yc zc xl yl zl xr yr zr
              have Kx_10 := Lib.hid (Kx_9.out.step b10)
              have Ky_10 := Lib.hid (Ky_9.out.step b10)
              have Kz_10 := Lib.hid (Kz_9.out.step b10)
              have Ka_10 := Lib.hid (Ka_9.out.step b10)
              have Kb_10 := Lib.hid (Kb_9.out.step b10)
              have Kc_10 := Lib.hid (Kc_9.out.step b10)
              have Kl_10 := Lib.hid (Kl_9.out.step b10)
              have Kr_10 := Lib.hid (Kr_9.out.step b10)
              clear Kx_9 Ky_9 Kz_9 Ka_9 Kb_9 Kc_9 Kl_9 Kr_9
              have HT10 := Lib.hid (HT9.out.below b10 HT9.out.pos)
              have HB10 := Lib.hid (keep2 b10 HB9.out)
              clear b10 HT9 HB9
              obtain ⟨⟨xx, yx⟩, zx⟩ := Kx_10.out.lay
              obtain ⟨⟨xy, yy⟩, zy⟩ := Ky_10.out.lay
              obtain ⟨⟨xz, yz⟩, zz⟩ := Kz_10.out.lay
              obtain ⟨⟨xa, ya⟩, za⟩ := Ka_10.out.lay
              obtain ⟨⟨xb, yb⟩, zb⟩ := Kb_10.out.lay
              obtain ⟨⟨xc, yc⟩, zc⟩ := Kc_10.out.lay
              obtain ⟨⟨xl, yl⟩, zl⟩ := Kl_10.out.lay
              obtain ⟨⟨xr, yr⟩, zr⟩ := Kr_10.out.lay
              obtain ⟨⟨xu, yu⟩, zu⟩ := Ku_10.out.lay
              rw [(dE_zero HE.out).1]
              by_cases hk : dE t1 s1 t3 s3 = 0
              · have hs := sums_order HE.out HG.out hk
                have HS := Lib.hid hs
                have q3 : (dE t1 s1 t3 s3 != 0) = false := by simpa using hk
                clear hk hs
                go_wp2_with fail
                refine (compare_any (dT t1 s1 t3 s3) (dS t1 s1 t3 s3) (dT t2 s2 t3 s3) (dS t2 s2 t3 s3) _ HT10.out).mono ?_
                rintro e u11 ⟨rfl, b11⟩
                clear xx yx zx xy yy zy xz yz zz xa ya za xb yb zb xc yc zc xl yl zl xr yr zr xu yu zu
                have Kx_11 := Lib.hid (Kx_10.out.step b11)
                have Ky_11 := Lib.hid (Ky_10.out.step b11)
                have Kz_11 := Lib.hid (Kz_10.out.step b11)
                have Ka_11 := Lib.hid (Ka_10.out.step b11)
                have Kb_11 := Lib.hid (Kb_10.out.step b11)
                have Kc_11 := Lib.hid (Kc_10.out.step b11)
                have Kl_11 := Lib.hid (Kl_10.out.step b11)
                have Kr_11 := Lib.hid (Kr_10.out.step b11)
                have Ku_11 := Lib.hid (Ku_10.out.step b11)
                clear Kx_10 Ky_10 Kz_10 Ka_10 Kb_10 Kc_10 Kl_10 Kr_10 Ku_10
                have HT11 := Lib.hid (HT10.out.below b11 HT10.out.pos)
                have HB11 := Lib.hid (keep2 b11 HB10.out)
                clear b11 HT10 HB10
                obtain ⟨⟨xx, yx⟩, zx⟩ := Kx_11.out.lay
                obtain ⟨⟨xy, yy⟩, zy⟩ := Ky_11.out.lay
                obtain ⟨⟨xz, yz⟩, zz⟩ := Kz_11.out.lay
                obtain ⟨⟨xa, ya⟩, za⟩ := Ka_11.out.lay
                obtain ⟨⟨xb, yb⟩, zb⟩ := Kb_11.out.lay
                obtain ⟨⟨xc, yc⟩, zc⟩ := Kc_11.out.lay
                obtain ⟨⟨xl, yl⟩, zl⟩ := Kl_11.out.lay
                obtain ⟨⟨xr, yr⟩, zr⟩ := Kr_11.out.lay
                obtain ⟨⟨xu, yu⟩, zu⟩ := Ku_11.out.lay
                rw [HS.out.1, HS.out.2]
                go_wp2_with fail
                go_ret
                exact ⟨rfl, HB11.out⟩
              · have q3 : (dE t1 s1 t3 s3 != 0) = true := by simpa using hk
                clear hk
                go_wp2_with fail
                go_ret
                exact ⟨rfl, HB10.out⟩
            · have q0 : (dE (dT t1 s1 t2 s2) (dS t1 s1 t2 s2) t3 s3 == 0) = true := by simpa using hh
              have q1 : (dE t1 s1 (dT t2 s2 t3 s3) (dS t2 s2 t3 s3) == 0) = false := by simpa using hi
              clear hh hi
              go_wp2_with fail
              refine (add_any t1 s1 t3 s3 _ (HT8.out.alloc _)).mono ?_
              rintro e u9 ⟨rfl, b9⟩
              have Kr_9 := Lib.hid (QAt.made b9)
              have b9 := bl1 b9
              clear xx yx zx xy yy zy xz yz zz xa ya za xb yb zb xc yc zc xl yl zl
              have Kx_9 := Lib.hid (Kx_8.out.step b9)
              have Ky_9 := Lib.hid (Ky_8.out.step b9)
              have Kz_9 := Lib.hid (Kz_8.out.step b9)
              have Ka_9 := Lib.hid (Ka_8.out.step b9)
              have Kb_9 := Lib.hid (Kb_8.out.step b9)
              have Kc_9 := Lib.hid (Kc_8.out.step b9)
              have Kl_9 := Lib.hid (Kl_8.out.step b9)
              clear Kx_8 Ky_8 Kz_8 Ka_8 Kb_8 Kc_8 Kl_8
              have HT9 := Lib.hid (HT8.out.below b9 HT8.out.pos)
              have HB9 := Lib.hid (keep2 b9 HB8.out)
              clear b9 HT8 HB8
              obtain ⟨⟨xx, yx⟩, zx⟩ := Kx_9.out.lay
              obtain ⟨⟨xy, yy⟩, zy⟩ := Ky_9.out.lay
              obtain ⟨⟨xz, yz⟩, zz⟩ := Kz_9.out.lay
              obtain ⟨⟨xa, ya⟩, za⟩ := Ka_9.out.lay
              obtain ⟨⟨xb, yb⟩, zb⟩ := Kb_9.out.lay
              obtain ⟨⟨xc, yc⟩, zc⟩ := Kc_9.out.lay
              obtain ⟨⟨xl, yl⟩, zl⟩ := Kl_9.out.lay
              obtain ⟨⟨xr, yr⟩, zr⟩ := Kr_9.out.lay
              go_wp2_with fail
              refine (compare_any t1 s1 t2 s2 _ (HT9.out.alloc _)).mono ?_
              rintro e u10 ⟨rfl, b10⟩
              have Ku_10 := Lib.hid (QAt.made b10)
              have b10 := bl1 b10
              clear xx yx zx xy yy zy xz yz zz xa ya za xb yb zb xc yc zc xl yl zl xr yr zr
              have Kx_10 := Lib.hid (Kx_9.out.step b10)
              have Ky_10 := Lib.hid (Ky_9.out.step b10)
              have Kz_10 := Lib.hid (Kz_9.out.step b10)
              have Ka_10 := Lib.hid (Ka_9.out.step b10)
              have Kb_10 := Lib.hid (Kb_9.out.step b10)
              have Kc_10 := Lib.hid (Kc_9.out.step b10)
              have Kl_10 := Lib.hid (Kl_9.out.step b10)
              have Kr_10 := Lib.hid (Kr_9.out.step b10)
              clear Kx_9 Ky_9 Kz_9 Ka_9 Kb_9 Kc_9 Kl_9 Kr_9
              have HT10 := Lib.hid (HT9.out.below b10 HT9.out.pos)
              have HB10 := Lib.hid (keep2 b10 HB9.out)
              clear b10 HT9 HB9
              obtain ⟨⟨xx, yx⟩, zx⟩ := Kx_10.out.lay
              obtain ⟨⟨xy, yy⟩, zy⟩ := Ky_10.out.lay
              obtain ⟨⟨xz, yz⟩, zz⟩ := Kz_10.out.lay
              obtain ⟨⟨xa, ya⟩, za⟩ := Ka_10.out.lay
              obtain ⟨⟨xb, yb⟩, zb⟩ := Kb_10.out.lay
              obtain ⟨⟨xc, yc⟩, zc⟩ := Kc_10.out.lay
              obtain ⟨⟨xl, yl⟩, zl⟩ := Kl_10.out.lay
              obtain ⟨⟨xr, yr⟩, zr⟩ := Kr_10.out.lay
              obtain ⟨⟨xu, yu⟩, zu⟩ := Ku_10.out.lay
              rw [(dE_zero HE.out).1]
              by_cases hk : dE t1 s1 t3 s3 = 0
              · have hs := sums_order HE.out HG.out hk
                have HS := Lib.hid hs
                have q3 : (dE t1 s1 t3 s3 != 0) = false := by simpa using hk
                clear hk hs
                go_wp2_with fail
                refine (compare_any (dT t1 s1 t3 s3) (dS t1 s1 t3 s3) (dT t2 s2 t3 s3) (dS t2 s2 t3 s3) _ HT10.out).mono ?_
                rintro e u11 ⟨rfl, b11⟩
                clear xx yx zx xy yy zy xz yz zz xa ya za xb yb zb xc yc zc xl yl zl xr yr zr xu yu zu
                have Kx_11 := Lib.hid (Kx_10.out.step b11)
                have Ky_11 := Lib.hid (Ky_10.out.step b11)
                have Kz_11 := Lib.hid (Kz_10.out.step b11)
                have Ka_11 := Lib.hid (Ka_10.out.step b11)
                have Kb_11 := Lib.hid (Kb_10.out.step b11)
                have Kc_11 := Lib.hid (Kc_10.out.step b11)
                have Kl_11 := Lib.hid (Kl_10.out.step b11)
                have Kr_11 := Lib.hid (Kr_10.out.step b11)
                have Ku_11 := Lib.hid (Ku_10.out.step b11)
                clear Kx_10 Ky_10 Kz_10 Ka_10 Kb_10 Kc_10 Kl_10 Kr_10 Ku_10
                have HT11 := Lib.hid (HT10.out.below b11 HT10.out.pos)
                have HB11 := Lib.hid (keep2 b11 HB10.out)
                clear b11 HT10 HB10
                obtain ⟨⟨xx, yx⟩, zx⟩ := Kx_11.out.lay
                obtain ⟨⟨xy, yy⟩, zy⟩ := Ky_11.out.lay
                obtain ⟨⟨xz, yz⟩, zz⟩ := Kz_11.out.lay
                obtain ⟨⟨xa, ya⟩, za⟩ := Ka_11.out.lay
                obtain ⟨⟨xb, yb⟩, zb⟩ := Kb_11.out.lay
                obtain ⟨⟨xc, yc⟩, zc⟩ := Kc_11.out.lay
                obtain ⟨⟨xl, yl⟩, zl⟩ := Kl_11.out.lay
                obtain ⟨⟨xr, yr⟩, zr⟩ := Kr_11.out.lay
                obtain ⟨⟨xu, yu⟩, zu⟩ := Ku_11.out.lay
                rw [HS.out.1, HS.out.2]
                go_wp2_with fail
                go_ret
                exact ⟨rfl, HB11.out⟩
              · have q3 : (dE t1 s1 t3 s3 != 0) = true := by simpa using hk
                clear hk
                go_wp2_with fail
                go_ret
                exact ⟨rfl, HB10.out⟩
          · have q1 : (dE (dT t1 s1 t2 s2) (dS t1 s1 t2 s2) t3 s3 == 0) = false := by simpa using hh
            clear hh
            go_wp2_with fail
            refine (add_any t1 s1 t3 s3 _ (HT8.out.alloc _)).mono ?_
            rintro e u9 ⟨rfl, b9⟩
            have Kr_9 := Lib.hid (QAt.made b9)
            have b9 := bl1 b9
            clear xx yx zx xy yy zy xz yz zz xa ya za xb yb zb xc yc zc xl yl zl
            have Kx_9 := Lib.hid (Kx_8.out.step b9)
            have Ky_9 := Lib.hid (Ky_8.out.step b9)
            have Kz_9 := Lib.hid (Kz_8.out.step b9)
            have Ka_9 := Lib.hid (Ka_8.out.step b9)
            have Kb_9 := Lib.hid (Kb_8.out.step b9)
            have Kc_9 := Lib.hid (Kc_8.out.step b9)
            have Kl_9 := Lib.hid (Kl_8.out.step b9)
            clear Kx_8 Ky_8 Kz_8 Ka_8 Kb_8 Kc_8 Kl_8
            have HT9 := Lib.hid (HT8.out.below b9 HT8.out.pos)
            have HB9 := Lib.hid (keep2 b9 HB8.out)
            clear b9 HT8 HB8
            obtain ⟨⟨xx, yx⟩, zx⟩ := Kx_9.out.lay
            obtain ⟨⟨xy, yy⟩, zy⟩ := Ky_9.out.lay
            obtain ⟨⟨xz, yz⟩, zz⟩ := Kz_9.out.lay
            obtain ⟨⟨xa, ya⟩, za⟩ := Ka_9.out.lay
            obtain ⟨⟨xb, yb⟩, zb⟩ := Kb_9.out.lay
            obtain ⟨⟨xc, yc⟩, zc⟩ := Kc_9.out.lay
            obtain ⟨⟨xl, yl⟩, zl⟩ := Kl_9.out.lay
            obtain ⟨⟨xr, yr⟩, zr⟩ := Kr_9.out.lay
            go_wp2_with fail
            refine (compare_any t1 s1 t2 s2 _ (HT9.out.alloc _)).mono ?_
            rintro e u10 ⟨rfl, b10⟩
            have Ku_10 := Lib.hid (QAt.made b10)
            have b10 := bl1 b10
            clear xx yx zx xy yy zy xz yz zz xa ya za xb yb zb xc yc zc xl yl zl xr yr zr
            have Kx_10 := Lib.hid (Kx_9.out.step b10)
            have Ky_10 := Lib.hid (Ky_9.out.step b10)
            have Kz_10 := Lib.hid (Kz_9.out.step b10)
            have Ka_10 := Lib.hid (Ka_9.out.step b10)
            have Kb_10 := Lib.hid (Kb_9.out.step b10)
            have Kc_10 := Lib.hid (Kc_9.out.step b10)
            have Kl_10 := Lib.hid (Kl_9.out.step b10)
            have Kr_10 := Lib.hid (Kr_9.out.step b10)
            clear Kx_9 Ky_9 Kz_9 Ka_9 Kb_9 Kc_9 Kl_9 Kr_9
            have HT10 := Lib.hid (HT9.out.below b10 HT9.out.pos)
            have HB10 := Lib.hid (keep2 b10 HB9.out)
            clear b10 HT9 HB9
            obtain ⟨⟨xx, yx⟩, zx⟩ := Kx_10.out.lay
            obtain ⟨⟨xy, yy⟩, zy⟩ := Ky_10.out.lay
            obtain ⟨⟨xz, yz⟩, zz⟩ := Kz_10.out.lay
            obtain ⟨⟨xa, ya⟩, za⟩ := Ka_10.out.lay
            obtain ⟨⟨xb, yb⟩, zb⟩ := Kb_10.out.lay
            obtain ⟨⟨xc, yc⟩, zc⟩ := Kc_10.out.lay
            obtain ⟨⟨xl, yl⟩, zl⟩ := Kl_10.out.lay
            obtain ⟨⟨xr, yr⟩, zr⟩ := Kr_10.out.lay
            obtain ⟨⟨xu, yu⟩, zu⟩ := Ku_10.out.lay
            rw [(dE_zero HE.out).1]
            by_cases hk : dE t1 s1 t3 s3 = 0
            · have hs := sums_order HE.out HG.out hk
              have HS := Lib.hid hs
              have q3 : (dE t1 s1 t3 s3 != 0) = false := by simpa using hk
              clear hk hs
              go_wp2_with fail
              refine (compare_any (dT t1 s1 t3 s3) (dS t1 s1 t3 s3) (dT t2 s2 t3 s3) (dS t2 s2 t3 s3) _ HT10.out).mono ?_
              rintro e u11 ⟨rfl, b11⟩
              clear xx yx zx xy yy zy xz yz zz xa ya za xb yb zb xc yc zc xl yl zl xr yr zr xu yu zu
              have Kx_11 := Lib.hid (Kx_10.out.step b11)
              have Ky_11 := Lib.hid (Ky_10.out.step b11)
              have Kz_11 := Lib.hid (Kz_10.out.step b11)
              have Ka_11 := Lib.hid (Ka_10.out.step b11)
              have Kb_11 := Lib.hid (Kb_10.out.step b11)
              have Kc_11 := Lib.hid (Kc_10.out.step b11)
              have Kl_11 := Lib.hid (Kl_10.out.step b11)
              have Kr_11 := Lib.hid (Kr_10.out.step b11)
              have Ku_11 := Lib.hid (Ku_10.out.step b11)
              clear Kx_10 Ky_10 Kz_10 Ka_10 Kb_10 Kc_10 Kl_10 Kr_10 Ku_10
              have HT11 := Lib.hid (HT10.out.below b11 HT10.out.pos)
              have HB11 := Lib.hid (keep2 b11 HB10.out)
              clear b11 HT10 HB10
              obtain ⟨⟨xx, yx⟩, zx⟩ := Kx_11.out.lay
              obtain ⟨⟨xy, yy⟩, zy⟩ := Ky_11.out.lay
              obtain ⟨⟨xz, yz⟩, zz⟩ := Kz_11.out.lay
              obtain ⟨⟨xa, ya⟩, za⟩ := Ka_11.out.lay
              obtain ⟨⟨xb, yb⟩, zb⟩ := Kb_11.out.lay
              obtain ⟨⟨xc, yc⟩, zc⟩ := Kc_11.out.lay
              obtain ⟨⟨xl, yl⟩, zl⟩ := Kl_11.out.lay
              obtain ⟨⟨xr, yr⟩, zr⟩ := Kr_11.out.lay
              obtain ⟨⟨xu, yu⟩, zu⟩ := Ku_11.out.lay
              rw [HS.out.1, HS.out.2]
              go_wp2_with fail
              go_ret
              exact ⟨rfl, HB11.out⟩
            · have q3 : (dE t1 s1 t3 s3 != 0) = true := by simpa using hk
              clear hk
              go_wp2_with fail
              go_ret
              exact ⟨rfl, HB10.out⟩
        · have q1 : (dE t2 s2 t3 s3 != 0) = true := by simpa using hg
          clear hg
          go_wp2_with fail
          go_ret
          exact ⟨rfl, (HB6.out.alloc HB6.out.size _)⟩
      · have q1 : (dE t1 s1 t2 s2 != 0) = true := by simpa using he
        have q2 : (dE t2 s2 t1 s1 != 0) = true := by simpa using dE_comm_no he
        rw [(dE_no (dE_comm_no he)).1, (dE_no (dE_comm_no he)).2]
        rw [(dE_no he).1] at xa
        rw [(dE_no he).2] at ya
        clear he
        go_wp2_with fail
        go_ret
        exact ⟨rfl, (HB5.out.alloc HB5.out.size _)⟩
end Go.Proofs.YtbmmmhjgidffpaaDoor
