/- The walk of 'UnitsMatchesReference'. -/
import Derived.Test.YtbmmmhjgidffpaaDoorT
namespace Go.Proofs.YtbmmmhjgidffpaaDoor
open Go.RowKit

set_option maxRecDepth 100000 in
set_option maxHeartbeats 8000000 in
theorem match_walk (t1 : Int) (s1 : ByteArray) (t2 : Int) (s2 : ByteArray) (d v : Int) (w : World) (hT : Tab w) (m1 : s1.size ≤ maxLen) (m2 : s2.size ≤ maxLen) (_wd : (Lit.int .i64 d).wf = true) (wv : (Lit.int .i64 v).wf = true) :
    Calls Tryd.prog 3 #[.agg #[.int .i64 t1, .string s1], .agg #[.int .i64 t2, .string s2], .int .i64 d, .int .i64 v] w fun e w' => e = .returned (.bool true) ∧ Below w.heap.size w w' := by
  have HT0 := Lib.hid ((hT.alloc (.cells #[.int .i64 t1, .string s1] 23)).alloc (.cells #[.int .i64 t2, .string s2] 23))
  have Kx_0 := Lib.hid ((QAt.new w t1 s1 23 w.heap.size rfl).alloc (.cells #[.int .i64 t2, .string s2] 23))
  have Ky_0 := Lib.hid (QAt.new (w.alloc (.cells #[.int .i64 t1, .string s1] 23)) t2 s2 23 (w.heap.size + 1) (by simp))
  have HB0 := Lib.hid (below_two w (.cells #[.int .i64 t1, .string s1] 23) (.cells #[.int .i64 t2, .string s2] 23))
  have HI := Lib.hid (show I64 v from Go.bounds_i64 wv)
  clear _wd wv
  go_enter Tryd.func3, Tryd.ntmps3
  go_wp2_with fail
  refine (head_any _ HT0.out).mono ?_
  rintro e u1 ⟨rfl, b1⟩
  have Kx_1 := Lib.hid (Kx_0.out.step b1)
  have Ky_1 := Lib.hid (Ky_0.out.step b1)
  clear Kx_0 Ky_0
  have HT1 := Lib.hid (HT0.out.below b1 HT0.out.pos)
  have HB1 := Lib.hid (keep2 b1 HB0.out)
  clear b1 HT0 HB0
  obtain ⟨⟨xx, yx⟩, zx⟩ := Kx_1.out.lay
  obtain ⟨⟨xy, yy⟩, zy⟩ := Ky_1.out.lay
  go_wp2_with fail
  refine (short_any t1 s1 t2 s2 _ m1 m2).mono ?_
  rintro e u2 ⟨rfl, b2⟩
  clear xx yx zx xy yy zy
  have Kx_2 := Lib.hid (Kx_1.out.step b2)
  have Ky_2 := Lib.hid (Ky_1.out.step b2)
  clear Kx_1 Ky_1
  have HT2 := Lib.hid (HT1.out.below b2 HT1.out.pos)
  have HB2 := Lib.hid (keep2 b2 HB1.out)
  clear b2 HT1 HB1
  obtain ⟨⟨xx, yx⟩, zx⟩ := Kx_2.out.lay
  obtain ⟨⟨xy, yy⟩, zy⟩ := Ky_2.out.lay
  cases h1 : sh s1 s2
  · go_wp2_with fail
    go_ret
    exact ⟨rfl, HB2.out⟩
  · go_wp2_with fail
    refine (base12_any t1 s1 _ HT2.out).mono ?_
    rintro e u3 ⟨rfl, b3⟩
    clear xx yx zx xy yy zy
    have Kx_3 := Lib.hid (Kx_2.out.step b3)
    have Ky_3 := Lib.hid (Ky_2.out.step b3)
    clear Kx_2 Ky_2
    have HT3 := Lib.hid (HT2.out.below b3 HT2.out.pos)
    have HB3 := Lib.hid (keep2 b3 HB2.out)
    clear b3 HT2 HB2
    obtain ⟨⟨xx, yx⟩, zx⟩ := Kx_3.out.lay
    obtain ⟨⟨xy, yy⟩, zy⟩ := Ky_3.out.lay
    go_wp2_with fail
    refine (rbase_any t1 s1 _).mono ?_
    rintro e u4 ⟨rfl, b4⟩
    clear xx yx zx xy yy zy
    have Kx_4 := Lib.hid (Kx_3.out.step b4)
    have Ky_4 := Lib.hid (Ky_3.out.step b4)
    clear Kx_3 Ky_3
    have HT4 := Lib.hid (HT3.out.below b4 HT3.out.pos)
    have HB4 := Lib.hid (keep2 b4 HB3.out)
    clear b4 HT3 HB3
    obtain ⟨⟨xx, yx⟩, zx⟩ := Kx_4.out.lay
    obtain ⟨⟨xy, yy⟩, zy⟩ := Ky_4.out.lay
    go_wp2_with fail
    refine (compare_any t1 s1 t2 s2 _ HT4.out).mono ?_
    rintro e u5 ⟨rfl, b5⟩
    clear xx yx zx xy yy zy
    have Kx_5 := Lib.hid (Kx_4.out.step b5)
    have Ky_5 := Lib.hid (Ky_4.out.step b5)
    clear Kx_4 Ky_4
    have HT5 := Lib.hid (HT4.out.below b5 HT4.out.pos)
    have HB5 := Lib.hid (keep2 b5 HB4.out)
    clear b5 HT4 HB4
    obtain ⟨⟨xx, yx⟩, zx⟩ := Kx_5.out.lay
    obtain ⟨⟨xy, yy⟩, zy⟩ := Ky_5.out.lay
    go_wp2_with fail
    refine (rcompare_any t1 s1 t2 s2 _).mono ?_
    rintro e u6 ⟨rfl, b6⟩
    clear xx yx zx xy yy zy
    have Kx_6 := Lib.hid (Kx_5.out.step b6)
    have Ky_6 := Lib.hid (Ky_5.out.step b6)
    clear Kx_5 Ky_5
    have HT6 := Lib.hid (HT5.out.below b6 HT5.out.pos)
    have HB6 := Lib.hid (keep2 b6 HB5.out)
    clear b6 HT5 HB5
    obtain ⟨⟨xx, yx⟩, zx⟩ := Kx_6.out.lay
    obtain ⟨⟨xy, yy⟩, zy⟩ := Ky_6.out.lay
    go_wp2_with fail
    refine (add_any t1 s1 t2 s2 _ HT6.out).mono ?_
    rintro e u7 ⟨rfl, b7⟩
    clear xx yx zx xy yy zy
    have Kx_7 := Lib.hid (Kx_6.out.step b7)
    have Ky_7 := Lib.hid (Ky_6.out.step b7)
    clear Kx_6 Ky_6
    have HT7 := Lib.hid (HT6.out.below b7 HT6.out.pos)
    have HB7 := Lib.hid (keep2 b7 HB6.out)
    clear b7 HT6 HB6
    obtain ⟨⟨xx, yx⟩, zx⟩ := Kx_7.out.lay
    obtain ⟨⟨xy, yy⟩, zy⟩ := Ky_7.out.lay
    go_wp2_with fail
    refine (radd_any t1 s1 t2 s2 _).mono ?_
    rintro e u8 ⟨rfl, b8⟩
    have Ka_8 := Lib.hid (QAt.made b8)
    have b8 := bl1 b8
    clear xx yx zx xy yy zy
    have Kx_8 := Lib.hid (Kx_7.out.step b8)
    have Ky_8 := Lib.hid (Ky_7.out.step b8)
    clear Kx_7 Ky_7
    have HT8 := Lib.hid (HT7.out.below b8 HT7.out.pos)
    have HB8 := Lib.hid (keep2 b8 HB7.out)
    clear b8 HT7 HB7
    obtain ⟨⟨xx, yx⟩, zx⟩ := Kx_8.out.lay
    obtain ⟨⟨xy, yy⟩, zy⟩ := Ky_8.out.lay
    obtain ⟨⟨xa, ya⟩, za⟩ := Ka_8.out.lay
    go_wp2_with fail
    refine (canon_any d v _ (HT8.out.alloc _) HI.out).mono ?_
    rintro e u9 ⟨rfl, b9⟩
    have Kb_9 := Lib.hid (QAt.made b9)
    have b9 := bl1 b9
    clear xx yx zx xy yy zy xa ya za
    have Kx_9 := Lib.hid (Kx_8.out.step b9)
    have Ky_9 := Lib.hid (Ky_8.out.step b9)
    have Ka_9 := Lib.hid (Ka_8.out.step b9)
    clear Kx_8 Ky_8 Ka_8
    have HT9 := Lib.hid (HT8.out.below b9 HT8.out.pos)
    have HB9 := Lib.hid (keep2 b9 HB8.out)
    clear b9 HT8 HB8
    obtain ⟨⟨xx, yx⟩, zx⟩ := Kx_9.out.lay
    obtain ⟨⟨xy, yy⟩, zy⟩ := Ky_9.out.lay
    obtain ⟨⟨xa, ya⟩, za⟩ := Ka_9.out.lay
    obtain ⟨⟨xb, yb⟩, zb⟩ := Kb_9.out.lay
    go_wp2_with fail
    refine (rcanon_any d v _ HI.out).mono ?_
    rintro e u10 ⟨rfl, b10⟩
    have Kc_10 := Lib.hid (QAt.made b10)
    have b10 := bl1 b10
    clear xx yx zx xy yy zy xa ya za xb yb zb
    have Kx_10 := Lib.hid (Kx_9.out.step b10)
    have Ky_10 := Lib.hid (Ky_9.out.step b10)
    have Ka_10 := Lib.hid (Ka_9.out.step b10)
    have Kb_10 := Lib.hid (Kb_9.out.step b10)
    clear Kx_9 Ky_9 Ka_9 Kb_9
    have HT10 := Lib.hid (HT9.out.below b10 HT9.out.pos)
    have HB10 := Lib.hid (keep2 b10 HB9.out)
    clear b10 HT9 HB9
    obtain ⟨⟨xx, yx⟩, zx⟩ := Kx_10.out.lay
    obtain ⟨⟨xy, yy⟩, zy⟩ := Ky_10.out.lay
    obtain ⟨⟨xa, ya⟩, za⟩ := Ka_10.out.lay
    obtain ⟨⟨xb, yb⟩, zb⟩ := Kb_10.out.lay
    obtain ⟨⟨xc, yc⟩, zc⟩ := Kc_10.out.lay
    go_wp2_with fail
    refine (seconds_any t1 s1 _ (HT10.out.alloc _)).mono ?_
    rintro e u11 ⟨rfl, b11⟩
    have Ke_11 := Lib.hid (QAt.made b11)
    have b11 := bl1 b11
    clear xx yx zx xy yy zy xa ya za xb yb zb xc yc zc
    have Kx_11 := Lib.hid (Kx_10.out.step b11)
    have Ky_11 := Lib.hid (Ky_10.out.step b11)
    have Ka_11 := Lib.hid (Ka_10.out.step b11)
    have Kb_11 := Lib.hid (Kb_10.out.step b11)
    have Kc_11 := Lib.hid (Kc_10.out.step b11)
    clear Kx_10 Ky_10 Ka_10 Kb_10 Kc_10
    have HT11 := Lib.hid (HT10.out.below b11 HT10.out.pos)
    have HB11 := Lib.hid (keep2 b11 HB10.out)
    clear b11 HT10 HB10
    obtain ⟨⟨xx, yx⟩, zx⟩ := Kx_11.out.lay
    obtain ⟨⟨xy, yy⟩, zy⟩ := Ky_11.out.lay
    obtain ⟨⟨xa, ya⟩, za⟩ := Ka_11.out.lay
    obtain ⟨⟨xb, yb⟩, zb⟩ := Kb_11.out.lay
    obtain ⟨⟨xc, yc⟩, zc⟩ := Kc_11.out.lay
    obtain ⟨⟨xe, ye⟩, ze⟩ := Ke_11.out.lay
    go_wp2_with fail
    refine (rseconds_any t1 s1 _).mono ?_
    rintro e u12 ⟨rfl, b12⟩
    clear xx yx zx xy yy zy xa ya za xb yb zb xc yc zc xe ye ze
    have Kx_12 := Lib.hid (Kx_11.out.step b12)
    have Ky_12 := Lib.hid (Ky_11.out.step b12)
    have Ka_12 := Lib.hid (Ka_11.out.step b12)
    have Kb_12 := Lib.hid (Kb_11.out.step b12)
    have Kc_12 := Lib.hid (Kc_11.out.step b12)
    have Ke_12 := Lib.hid (Ke_11.out.step b12)
    clear Kx_11 Ky_11 Ka_11 Kb_11 Kc_11 Ke_11
    have HT12 := Lib.hid (HT11.out.below b12 HT11.out.pos)
    have HB12 := Lib.hid (keep2 b12 HB11.out)
    clear b12 HT11 HB11
    obtain ⟨⟨xx, yx⟩, zx⟩ := Kx_12.out.lay
    obtain ⟨⟨xy, yy⟩, zy⟩ := Ky_12.out.lay
    obtain ⟨⟨xa, ya⟩, za⟩ := Ka_12.out.lay
    obtain ⟨⟨xb, yb⟩, zb⟩ := Kb_12.out.lay
    obtain ⟨⟨xc, yc⟩, zc⟩ := Kc_12.out.lay
    obtain ⟨⟨xe, ye⟩, ze⟩ := Ke_12.out.lay
    go_wp2_with fail
    refine (energy_any t1 s1 t2 s2 _ HT12.out).mono ?_
    rintro e u13 ⟨rfl, b13⟩
    clear xx yx zx xy yy zy xa ya za xb yb zb xc yc zc xe ye ze
    have Kx_13 := Lib.hid (Kx_12.out.step b13)
    have Ky_13 := Lib.hid (Ky_12.out.step b13)
    have Ka_13 := Lib.hid (Ka_12.out.step b13)
    have Kb_13 := Lib.hid (Kb_12.out.step b13)
    have Kc_13 := Lib.hid (Kc_12.out.step b13)
    have Ke_13 := Lib.hid (Ke_12.out.step b13)
    clear Kx_12 Ky_12 Ka_12 Kb_12 Kc_12 Ke_12
    have HT13 := Lib.hid (HT12.out.below b13 HT12.out.pos)
    have HB13 := Lib.hid (keep2 b13 HB12.out)
    clear b13 HT12 HB12
    obtain ⟨⟨xx, yx⟩, zx⟩ := Kx_13.out.lay
    obtain ⟨⟨xy, yy⟩, zy⟩ := Ky_13.out.lay
    obtain ⟨⟨xa, ya⟩, za⟩ := Ka_13.out.lay
    obtain ⟨⟨xb, yb⟩, zb⟩ := Kb_13.out.lay
    obtain ⟨⟨xc, yc⟩, zc⟩ := Kc_13.out.lay
    obtain ⟨⟨xe, ye⟩, ze⟩ := Ke_13.out.lay
    go_wp2_with fail
    refine (renergy_any t1 s1 t2 s2 _).mono ?_
    rintro e u14 ⟨rfl, b14⟩
    have Kf_14 := Lib.hid (QAt.made b14)
    have b14 := bl1 b14
    clear xx yx zx xy yy zy xa ya za xb yb zb xc yc zc xe ye ze
    have Kx_14 := Lib.hid (Kx_13.out.step b14)
    have Ky_14 := Lib.hid (Ky_13.out.step b14)
    have Ka_14 := Lib.hid (Ka_13.out.step b14)
    have Kb_14 := Lib.hid (Kb_13.out.step b14)
    have Kc_14 := Lib.hid (Kc_13.out.step b14)
    have Ke_14 := Lib.hid (Ke_13.out.step b14)
    clear Kx_13 Ky_13 Ka_13 Kb_13 Kc_13 Ke_13
    have HT14 := Lib.hid (HT13.out.below b14 HT13.out.pos)
    have HB14 := Lib.hid (keep2 b14 HB13.out)
    clear b14 HT13 HB13
    obtain ⟨⟨xx, yx⟩, zx⟩ := Kx_14.out.lay
    obtain ⟨⟨xy, yy⟩, zy⟩ := Ky_14.out.lay
    obtain ⟨⟨xa, ya⟩, za⟩ := Ka_14.out.lay
    obtain ⟨⟨xb, yb⟩, zb⟩ := Kb_14.out.lay
    obtain ⟨⟨xc, yc⟩, zc⟩ := Kc_14.out.lay
    obtain ⟨⟨xe, ye⟩, ze⟩ := Ke_14.out.lay
    obtain ⟨⟨xf, yf⟩, zf⟩ := Kf_14.out.lay
    go_wp2_with fail
    go_ret
    exact ⟨rfl, (HB14.out.alloc HB14.out.size _)⟩
end Go.Proofs.YtbmmmhjgidffpaaDoor
