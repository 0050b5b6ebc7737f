/- The walk of 'UnitsOrder'. -/
import Derived.Test.YtbmmmhjgidffpaaDoorM
import Derived.Test.YtbmmmhjgidffpaaDoorG
namespace Go.Proofs.YtbmmmhjgidffpaaDoor
open Go.RowKit

/-- Three boxed quantities. -/
def Box3 (w : World) (b : Nat) (t1 : Int) (s1 : ByteArray) (t2 : Int) (s2 : ByteArray) (t3 : Int) (s3 : ByteArray) : Prop :=
  (w.cell? ⟨b, 0, none⟩ = some (.int .i64 t1) ∧ w.cell? ⟨b, 1, none⟩ = some (.string s1)) ∧ (w.cell? ⟨b + 1, 0, none⟩ = some (.int .i64 t2) ∧ w.cell? ⟨b + 1, 1, none⟩ = some (.string s2)) ∧ (w.cell? ⟨b + 1 + 1, 0, none⟩ = some (.int .i64 t3) ∧ w.cell? ⟨b + 1 + 1, 1, none⟩ = some (.string s3))
theorem Box3.step {w w1 : World} {b : Nat} {t1 : Int} {s1 : ByteArray} {t2 : Int} {s2 : ByteArray} {t3 : Int} {s3 : ByteArray} (h : Box3 w b t1 s1 t2 s2 t3 s3) (hb : Below w.heap.size w w1) : Box3 w1 b t1 s1 t2 s2 t3 s3 :=
  ⟨⟨keep1 hb h.1.1, keep1 hb h.1.2⟩, ⟨keep1 hb h.2.1.1, keep1 hb h.2.1.2⟩, ⟨keep1 hb h.2.2.1, keep1 hb h.2.2.2⟩⟩
theorem Box3.lay {w : World} {b : Nat} {t1 : Int} {s1 : ByteArray} {t2 : Int} {s2 : ByteArray} {t3 : Int} {s3 : ByteArray} (h : Box3 w b t1 s1 t2 s2 t3 s3) :
    ((w.cell? ⟨b, 0, none⟩ = some (.int .i64 t1) ∧ w.cell? ⟨b, 1, none⟩ = some (.string s1)) ∧ (w.cell? ⟨b + 1, 0, none⟩ = some (.int .i64 t2) ∧ w.cell? ⟨b + 1, 1, none⟩ = some (.string s2)) ∧ (w.cell? ⟨b + 1 + 1, 0, none⟩ = some (.int .i64 t3) ∧ w.cell? ⟨b + 1 + 1, 1, none⟩ = some (.string s3))) ∧ b < w.heap.size ∧ b + 1 < w.heap.size ∧ b + 1 + 1 < w.heap.size := by
  have h1 : b < w.heap.size := World.block_lt_of_cell? w _ h.1.1
  have h2 : b + 1 < w.heap.size := World.block_lt_of_cell? w _ h.2.1.1
  have h3 : b + 1 + 1 < w.heap.size := World.block_lt_of_cell? w _ h.2.2.1
  exact ⟨h, h1, h2, h3⟩
theorem Box3.new (w : World) (t1 : Int) (s1 : ByteArray) (t2 : Int) (s2 : ByteArray) (t3 : Int) (s3 : ByteArray) (T : TypeId) :
    Box3 (((w.alloc (.cells #[.int .i64 t1, .string s1] T)).alloc (.cells #[.int .i64 t2, .string s2] T)).alloc (.cells #[.int .i64 t3, .string s3] T)) w.heap.size t1 s1 t2 s2 t3 s3 := by
  refine ⟨⟨?_, ?_⟩, ⟨?_, ?_⟩, ⟨?_, ?_⟩⟩
  · rw [World.cell?_alloc_past _ _ _ (by simp; omega), World.cell?_alloc_past _ _ _ (by simp)]; exact cell_new' _ _ _ _ rfl 0
  · rw [World.cell?_alloc_past _ _ _ (by simp; omega), World.cell?_alloc_past _ _ _ (by simp)]; exact cell_new' _ _ _ _ rfl 1
  · rw [World.cell?_alloc_past _ _ _ (by simp)]; exact cell_new' _ _ _ _ (by simp) 0
  · rw [World.cell?_alloc_past _ _ _ (by simp)]; exact cell_new' _ _ _ _ (by simp) 1
  · exact cell_new' _ _ _ _ (by simp) 0
  · exact cell_new' _ _ _ _ (by simp) 1
theorem below_three (w : World) (o1 o2 o3 : Obj) : Below w.heap.size w (((w.alloc o1).alloc o2).alloc o3) := (((Below.refl _ _).alloc (Nat.le_refl _) _).alloc (by simp) _).alloc (by simp; omega) _

theorem sh_split {s1 s2 s3 : ByteArray} : (sh s1 s2 = false) ∨ (sh s1 s2 = true ∧ sh s3 s3 = false) ∨ (sh s1 s2 = true ∧ sh s3 s3 = true) := by
  cases sh s1 s2 <;> cases sh s3 s3 <;> simp
set_option maxRecDepth 100000 in
set_option maxHeartbeats 2000000 in
theorem order_walk1 (t1 : Int) (s1 : ByteArray) (t2 : Int) (s2 : ByteArray) (t3 : Int) (s3 : ByteArray) (w : World) (hT : Tab w) (m1 : s1.size ≤ maxLen) (m2 : s2.size ≤ maxLen) (_m3 : s3.size ≤ maxLen) (HS1 : Hid (sh s1 s2 = false)) :
    Calls Tryd.prog 5 #[.agg #[.int .i64 t1, .string s1], .agg #[.int .i64 t2, .string s2], .agg #[.int .i64 t3, .string s3]] w fun e w' => e = .returned (.bool true) ∧ Below w.heap.size w w' := by
  have HT0 := Lib.hid (((hT.alloc (.cells #[.int .i64 t1, .string s1] 23)).alloc (.cells #[.int .i64 t2, .string s2] 23)).alloc (.cells #[.int .i64 t3, .string s3] 23))
  have HP0 := Lib.hid (Box3.new w t1 s1 t2 s2 t3 s3 23)
  have HB0 := Lib.hid (below_three w (.cells #[.int .i64 t1, .string s1] 23) (.cells #[.int .i64 t2, .string s2] 23) (.cells #[.int .i64 t3, .string s3] 23))
  go_enter Tryd.func5, Tryd.ntmps5
  go_wp2_with fail
  refine (head_any _ HT0.out).mono ?_
  rintro e u1 ⟨rfl, b1⟩
  have HT1 := Lib.hid (HT0.out.below b1 HT0.out.pos)
  have HP1 := Lib.hid (HP0.out.step b1)
  have HB1 := Lib.hid (keep2 b1 HB0.out)
  clear b1 HT0 HP0 HB0
  obtain ⟨⟨⟨x0, x1⟩, ⟨y0, y1⟩, ⟨z0, z1⟩⟩, hz0, hz1, hz2⟩ := HP1.out.lay
  go_wp2_with fail
  refine (short_any t1 s1 t2 s2 _ m1 m2).mono ?_
  rintro e u2 ⟨rfl, b2⟩
  have HT2 := Lib.hid (HT1.out.below b2 HT1.out.pos)
  have HP2 := Lib.hid (HP1.out.step b2)
  have HB2 := Lib.hid (keep2 b2 HB1.out)
  clear b2 HT1 HP1 HB1
  clear x0 x1 y0 y1 z0 z1 hz0 hz1 hz2
  obtain ⟨⟨⟨x0, x1⟩, ⟨y0, y1⟩, ⟨z0, z1⟩⟩, hz0, hz1, hz2⟩ := HP2.out.lay
  rw [HS1.out]
  go_wp2_with fail
  go_ret
  exact ⟨rfl, HB2.out⟩
set_option maxRecDepth 100000 in
set_option maxHeartbeats 2000000 in
theorem order_walk2 (t1 : Int) (s1 : ByteArray) (t2 : Int) (s2 : ByteArray) (t3 : Int) (s3 : ByteArray) (w : World) (hT : Tab w) (m1 : s1.size ≤ maxLen) (m2 : s2.size ≤ maxLen) (m3 : s3.size ≤ maxLen) (HS1 : Hid (sh s1 s2 = true)) (HS2 : Hid (sh s3 s3 = false)) :
    Calls Tryd.prog 5 #[.agg #[.int .i64 t1, .string s1], .agg #[.int .i64 t2, .string s2], .agg #[.int .i64 t3, .string s3]] w fun e w' => e = .returned (.bool true) ∧ Below w.heap.size w w' := by
  have HT0 := Lib.hid (((hT.alloc (.cells #[.int .i64 t1, .string s1] 23)).alloc (.cells #[.int .i64 t2, .string s2] 23)).alloc (.cells #[.int .i64 t3, .string s3] 23))
  have HP0 := Lib.hid (Box3.new w t1 s1 t2 s2 t3 s3 23)
  have HB0 := Lib.hid (below_three w (.cells #[.int .i64 t1, .string s1] 23) (.cells #[.int .i64 t2, .string s2] 23) (.cells #[.int .i64 t3, .string s3] 23))
  go_enter Tryd.func5, Tryd.ntmps5
  go_wp2_with fail
  refine (head_any _ HT0.out).mono ?_
  rintro e u1 ⟨rfl, b1⟩
  have HT1 := Lib.hid (HT0.out.below b1 HT0.out.pos)
  have HP1 := Lib.hid (HP0.out.step b1)
  have HB1 := Lib.hid (keep2 b1 HB0.out)
  clear b1 HT0 HP0 HB0
  obtain ⟨⟨⟨x0, x1⟩, ⟨y0, y1⟩, ⟨z0, z1⟩⟩, hz0, hz1, hz2⟩ := HP1.out.lay
  go_wp2_with fail
  refine (short_any t1 s1 t2 s2 _ m1 m2).mono ?_
  rintro e u2 ⟨rfl, b2⟩
  have HT2 := Lib.hid (HT1.out.below b2 HT1.out.pos)
  have HP2 := Lib.hid (HP1.out.step b2)
  have HB2 := Lib.hid (keep2 b2 HB1.out)
  clear b2 HT1 HP1 HB1
  clear x0 x1 y0 y1 z0 z1 hz0 hz1 hz2
  obtain ⟨⟨⟨x0, x1⟩, ⟨y0, y1⟩, ⟨z0, z1⟩⟩, hz0, hz1, hz2⟩ := HP2.out.lay
  rw [HS1.out]
  go_wp2_with fail
  refine (short_any t3 s3 t3 s3 _ m3 m3).mono ?_
  rintro e u3 ⟨rfl, b3⟩
  have HT3 := Lib.hid (HT2.out.below b3 HT2.out.pos)
  have HP3 := Lib.hid (HP2.out.step b3)
  have HB3 := Lib.hid (keep2 b3 HB2.out)
  clear b3 HT2 HP2 HB2
  clear x0 x1 y0 y1 z0 z1 hz0 hz1 hz2
  obtain ⟨⟨⟨x0, x1⟩, ⟨y0, y1⟩, ⟨z0, z1⟩⟩, hz0, hz1, hz2⟩ := HP3.out.lay
  rw [HS2.out]
  go_wp2_with fail
  go_ret
  exact ⟨rfl, HB3.out⟩
set_option maxRecDepth 100000 in
set_option maxHeartbeats 2000000 in
theorem order_walk3 (t1 : Int) (s1 : ByteArray) (t2 : Int) (s2 : ByteArray) (t3 : Int) (s3 : ByteArray) (w : World) (hT : Tab w) (m1 : s1.size ≤ maxLen) (m2 : s2.size ≤ maxLen) (m3 : s3.size ≤ maxLen) (HS1 : Hid (sh s1 s2 = true)) (HS2 : Hid (sh s3 s3 = true)) :
    Calls Tryd.prog 5 #[.agg #[.int .i64 t1, .string s1], .agg #[.int .i64 t2, .string s2], .agg #[.int .i64 t3, .string s3]] w fun e w' => e = .returned (.bool true) ∧ Below w.heap.size w w' := by
  have HT0 := Lib.hid (((hT.alloc (.cells #[.int .i64 t1, .string s1] 23)).alloc (.cells #[.int .i64 t2, .string s2] 23)).alloc (.cells #[.int .i64 t3, .string s3] 23))
  have HP0 := Lib.hid (Box3.new w t1 s1 t2 s2 t3 s3 23)
  have HB0 := Lib.hid (below_three w (.cells #[.int .i64 t1, .string s1] 23) (.cells #[.int .i64 t2, .string s2] 23) (.cells #[.int .i64 t3, .string s3] 23))
  go_enter Tryd.func5, Tryd.ntmps5
  go_wp2_with fail
  refine (head_any _ HT0.out).mono ?_
  rintro e u1 ⟨rfl, b1⟩
  have HT1 := Lib.hid (HT0.out.below b1 HT0.out.pos)
  have HP1 := Lib.hid (HP0.out.step b1)
  have HB1 := Lib.hid (keep2 b1 HB0.out)
  clear b1 HT0 HP0 HB0
  obtain ⟨⟨⟨x0, x1⟩, ⟨y0, y1⟩, ⟨z0, z1⟩⟩, hz0, hz1, hz2⟩ := HP1.out.lay
  go_wp2_with fail
  refine (short_any t1 s1 t2 s2 _ m1 m2).mono ?_
  rintro e u2 ⟨rfl, b2⟩
  have HT2 := Lib.hid (HT1.out.below b2 HT1.out.pos)
  have HP2 := Lib.hid (HP1.out.step b2)
  have HB2 := Lib.hid (keep2 b2 HB1.out)
  clear b2 HT1 HP1 HB1
  clear x0 x1 y0 y1 z0 z1 hz0 hz1 hz2
  obtain ⟨⟨⟨x0, x1⟩, ⟨y0, y1⟩, ⟨z0, z1⟩⟩, hz0, hz1, hz2⟩ := HP2.out.lay
  rw [HS1.out]
  go_wp2_with fail
  refine (short_any t3 s3 t3 s3 _ m3 m3).mono ?_
  rintro e u3 ⟨rfl, b3⟩
  have HT3 := Lib.hid (HT2.out.below b3 HT2.out.pos)
  have HP3 := Lib.hid (HP2.out.step b3)
  have HB3 := Lib.hid (keep2 b3 HB2.out)
  clear b3 HT2 HP2 HB2
  clear x0 x1 y0 y1 z0 z1 hz0 hz1 hz2
  obtain ⟨⟨⟨x0, x1⟩, ⟨y0, y1⟩, ⟨z0, z1⟩⟩, hz0, hz1, hz2⟩ := HP3.out.lay
  rw [HS2.out]
  go_wp2_with fail
  refine (compare_any _ _ _ _ _ HT3.out).mono ?_
  rintro e u4 ⟨rfl, b4⟩
  have HT4 := Lib.hid (HT3.out.below b4 HT3.out.pos)
  have HP4 := Lib.hid (HP3.out.step b4)
  have HB4 := Lib.hid (keep2 b4 HB3.out)
  clear b4 HT3 HP3 HB3
  clear x0 x1 y0 y1 z0 z1 hz0 hz1 hz2
  obtain ⟨⟨⟨x0, x1⟩, ⟨y0, y1⟩, ⟨z0, z1⟩⟩, hz0, hz1, hz2⟩ := HP4.out.lay
  go_wp2_with fail
  refine (compare_any _ _ _ _ _ HT4.out).mono ?_
  rintro e u5 ⟨rfl, b5⟩
  have HT5 := Lib.hid (HT4.out.below b5 HT4.out.pos)
  have HP5 := Lib.hid (HP4.out.step b5)
  have HB5 := Lib.hid (keep2 b5 HB4.out)
  clear b5 HT4 HP4 HB4
  clear x0 x1 y0 y1 z0 z1 hz0 hz1 hz2
  obtain ⟨⟨⟨x0, x1⟩, ⟨y0, y1⟩, ⟨z0, z1⟩⟩, hz0, hz1, hz2⟩ := HP5.out.lay
  go_wp2_with fail
  refine (compare_any _ _ _ _ _ HT5.out).mono ?_
  rintro e u6 ⟨rfl, b6⟩
  have HT6 := Lib.hid (HT5.out.below b6 HT5.out.pos)
  have HP6 := Lib.hid (HP5.out.step b6)
  have HB6 := Lib.hid (keep2 b6 HB5.out)
  clear b6 HT5 HP5 HB5
  clear x0 x1 y0 y1 z0 z1 hz0 hz1 hz2
  obtain ⟨⟨⟨x0, x1⟩, ⟨y0, y1⟩, ⟨z0, z1⟩⟩, hz0, hz1, hz2⟩ := HP6.out.lay
  go_wp2_with fail
  refine (compare_any _ _ _ _ _ HT6.out).mono ?_
  rintro e u7 ⟨rfl, b7⟩
  have HT7 := Lib.hid (HT6.out.below b7 HT6.out.pos)
  have HP7 := Lib.hid (HP6.out.step b7)
  have HB7 := Lib.hid (keep2 b7 HB6.out)
  clear b7 HT6 HP6 HB6
  clear x0 x1 y0 y1 z0 z1 hz0 hz1 hz2
  obtain ⟨⟨⟨x0, x1⟩, ⟨y0, y1⟩, ⟨z0, z1⟩⟩, hz0, hz1, hz2⟩ := HP7.out.lay
  go_wp2_with fail
  refine (base12_any _ _ _ HT7.out).mono ?_
  rintro e u8 ⟨rfl, b8⟩
  have HT8 := Lib.hid (HT7.out.below b8 HT7.out.pos)
  have HP8 := Lib.hid (HP7.out.step b8)
  have HB8 := Lib.hid (keep2 b8 HB7.out)
  clear b8 HT7 HP7 HB7
  clear x0 x1 y0 y1 z0 z1 hz0 hz1 hz2
  obtain ⟨⟨⟨x0, x1⟩, ⟨y0, y1⟩, ⟨z0, z1⟩⟩, hz0, hz1, hz2⟩ := HP8.out.lay
  go_wp2_with fail
  refine (base12_any _ _ _ HT8.out).mono ?_
  rintro e u9 ⟨rfl, b9⟩
  have HT9 := Lib.hid (HT8.out.below b9 HT8.out.pos)
  have HP9 := Lib.hid (HP8.out.step b9)
  have HB9 := Lib.hid (keep2 b9 HB8.out)
  clear b9 HT8 HP8 HB8
  clear x0 x1 y0 y1 z0 z1 hz0 hz1 hz2
  obtain ⟨⟨⟨x0, x1⟩, ⟨y0, y1⟩, ⟨z0, z1⟩⟩, hz0, hz1, hz2⟩ := HP9.out.lay
  have hm := order_cases t1 s1 t2 s2 t3 s3
  clear x0 x1 y0 y1 z0 z1 hz0 hz1 hz2 HT9 HP9
  generalize pE t1 s1 t2 s2 = e at *
  generalize pE t2 s2 t1 s1 = f at *
  generalize pE t2 s2 t3 s3 = g at *
  generalize pE t1 s1 t3 s3 = h at *
  generalize cV t1 s1 t2 s2 = a at *
  generalize cV t2 s2 t1 s1 = b at *
  generalize cV t2 s2 t3 s3 = c at *
  generalize cV t1 s1 t3 s3 = d at *
  generalize bD t1 s1 = m at *
  generalize bD t2 s2 = n at *
  generalize bE t1 s1 = i at *
  generalize bE t2 s2 = k at *
  generalize bV t1 s1 = v at *
  generalize bV t2 s2 = w2 at *
  rcases hm with ⟨hi, he, hf⟩ | ⟨rfl, hk, he, hf⟩ | ⟨rfl, rfl, hmn, rfl, rfl⟩ | ⟨rfl, rfl, rfl, rfl, rfl, hab, hg⟩
  · have q1 : (i != 0) = true := by simpa using hi
    have q2 : (e != 0) = true := by simpa using he
    have q3 : (f != 0) = true := by simpa using hf
    clear hi he hf
    go_wp2_with fail
    go_ret
    exact ⟨rfl, HB9.out⟩
  · have q1 : (k != 0) = true := by simpa using hk
    have q2 : (e != 0) = true := by simpa using he
    have q3 : (f != 0) = true := by simpa using hf
    clear hk he hf
    go_wp2_with fail
    go_ret
    exact ⟨rfl, HB9.out⟩
  · have q1 : (m != n) = true := by simpa using hmn
    clear hmn
    go_wp2_with fail
    go_ret
    exact ⟨rfl, HB9.out⟩
  · have HG := Lib.hid hg
    clear hg
    rcases hab with ⟨rfl, rfl, hv⟩ | ⟨rfl, rfl, rfl⟩ | ⟨rfl, rfl, hv⟩
    · have q1 : (v == w2) = false := by simp; omega
      have q2 : decide (v < w2) = true := by simpa using hv
      rcases HG.out with hg | ⟨rfl, rfl, hc, hd⟩
      · have q3 : (g != 0) = true := by simpa using hg
        clear hg HG
        go_wp2_with fail
        go_ret
        exact ⟨rfl, HB9.out⟩
      · clear HG
        rcases hc with rfl | rfl | rfl
        · obtain rfl : d = -1 := by omega
          clear hd
          go_wp2_with fail
          go_ret
          exact ⟨rfl, HB9.out⟩
        · obtain rfl : d = -1 := by omega
          clear hd
          go_wp2_with fail
          go_ret
          exact ⟨rfl, HB9.out⟩
        · clear hd
          go_wp2_with fail
          go_ret
          exact ⟨rfl, HB9.out⟩
    · rcases HG.out with hg | ⟨rfl, rfl, hc, hd⟩
      · have q3 : (g != 0) = true := by simpa using hg
        clear hg HG
        go_wp2_with fail
        go_ret
        exact ⟨rfl, HB9.out⟩
      · clear HG
        rcases hc with rfl | rfl | rfl
        · obtain rfl : d = -1 := by omega
          clear hd
          go_wp2_with fail
          go_ret
          exact ⟨rfl, HB9.out⟩
        · rcases (show d = -1 ∨ d = 0 by omega) with rfl | rfl
          · clear hd
            go_wp2_with fail
            go_ret
            exact ⟨rfl, HB9.out⟩
          · clear hd
            go_wp2_with fail
            go_ret
            exact ⟨rfl, HB9.out⟩
        · clear hd
          go_wp2_with fail
          go_ret
          exact ⟨rfl, HB9.out⟩
    · have q1 : (v == w2) = false := by simp; omega
      have q2 : decide (v < w2) = false := by simp; omega
      rcases HG.out with hg | ⟨rfl, rfl, hc, hd⟩
      · have q3 : (g != 0) = true := by simpa using hg
        clear hg HG
        go_wp2_with fail
        go_ret
        exact ⟨rfl, HB9.out⟩
      · clear HG hc hd
        go_wp2_with fail
        go_ret
        exact ⟨rfl, HB9.out⟩
theorem order_walk (t1 : Int) (s1 : ByteArray) (t2 : Int) (s2 : ByteArray) (t3 : Int) (s3 : ByteArray) (w : World) (hT : Tab w) (m1 : s1.size ≤ maxLen) (m2 : s2.size ≤ maxLen) (m3 : s3.size ≤ maxLen) :
    Calls Tryd.prog 5 #[.agg #[.int .i64 t1, .string s1], .agg #[.int .i64 t2, .string s2], .agg #[.int .i64 t3, .string s3]] w fun e w' => e = .returned (.bool true) ∧ Below w.heap.size w w' := by
  rcases sh_split (s1 := s1) (s2 := s2) (s3 := s3) with h | ⟨h, h'⟩ | ⟨h, h'⟩
  · exact order_walk1 t1 s1 t2 s2 t3 s3 w hT m1 m2 m3 (Lib.hid h)
  · exact order_walk2 t1 s1 t2 s2 t3 s3 w hT m1 m2 m3 (Lib.hid h) (Lib.hid h')
  · exact order_walk3 t1 s1 t2 s2 t3 s3 w hT m1 m2 m3 (Lib.hid h) (Lib.hid h')
end Go.Proofs.YtbmmmhjgidffpaaDoor
