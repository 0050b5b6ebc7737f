/- The contracts of the reference's 'Add' and 'Energy'. -/
import Derived.Test.YtbmmmhjgidffpaaDoorS
import Derived.Test.YtbmmmhjgidffpaaDoorL
namespace Go.Proofs.YtbmmmhjgidffpaaDoor
open Go.RowKit

set_option maxRecDepth 100000 in
set_option maxHeartbeats 2000000 in
theorem radd_e1 (t1 : Int) (s1 : ByteArray) (t2 : Int) (s2 : ByteArray) (w : World) (H1 : Hid (bE t1 s1 ≠ 0)) :
    Calls Tryd.prog 17 #[.agg #[.int .i64 t1, .string s1], .agg #[.int .i64 t2, .string s2]] w fun e w' => e = .returned (.tuple #[.agg #[.int .i64 0, .string ⟨#[]⟩], .int .i64 (bE t1 s1)]) ∧ Below w.heap.size w w' := by
  have q1 : (bE t1 s1 != 0) = true := by simpa using H1.out
  go_enter Tryd.func17, Tryd.ntmps17
  go_wp2_with fail
  refine (rboth_err t1 s1 t2 s2 _ H1.out).mono ?_
  rintro e w1 ⟨rfl, b1⟩
  have htw := two_third b1
  obtain ⟨⟨c0, f0⟩, ⟨c1, f1⟩⟩ := htw
  have hb := bl3 b1
  obtain ⟨hb1, hz⟩ := hb
  have HB := Lib.hid hb1
  clear hb1 b1
  go_wp2
  exact bodyPost_ret (v := .tuple #[.agg #[.int .i64 0, .string ⟨#[]⟩], .int .i64 (bE t1 s1)]) (by simp [results, Tryd.results17, go_sem, c0, c1]) rfl ⟨rfl, (HB.out.setCell (by simp; omega) _).setCell (by simp; omega) _⟩
set_option maxRecDepth 100000 in
set_option maxHeartbeats 2000000 in
theorem radd_e2 (t1 : Int) (s1 : ByteArray) (t2 : Int) (s2 : ByteArray) (w : World) (H1 : Hid (bE t1 s1 = 0)) (H2 : Hid (bE t2 s2 ≠ 0)) :
    Calls Tryd.prog 17 #[.agg #[.int .i64 t1, .string s1], .agg #[.int .i64 t2, .string s2]] w fun e w' => e = .returned (.tuple #[.agg #[.int .i64 0, .string ⟨#[]⟩], .int .i64 (bE t2 s2)]) ∧ Below w.heap.size w w' := by
  have q1 : (bE t2 s2 != 0) = true := by simpa using H2.out
  go_enter Tryd.func17, Tryd.ntmps17
  go_wp2_with fail
  refine (rboth_ok t1 s1 t2 s2 _ H1.out).mono ?_
  rintro e w1 ⟨rfl, b1⟩
  have htw := two_third b1
  obtain ⟨⟨c0, f0⟩, ⟨c1, f1⟩⟩ := htw
  have hb := bl3 b1
  obtain ⟨hb1, hz⟩ := hb
  have HB := Lib.hid hb1
  clear hb1 b1
  go_wp2
  exact bodyPost_ret (v := .tuple #[.agg #[.int .i64 0, .string ⟨#[]⟩], .int .i64 (bE t2 s2)]) (by simp [results, Tryd.results17, go_sem, c0, c1]) rfl ⟨rfl, (HB.out.setCell (by simp; omega) _).setCell (by simp; omega) _⟩
set_option maxRecDepth 100000 in
set_option maxHeartbeats 2000000 in
theorem renergy_e1 (t1 : Int) (s1 : ByteArray) (t2 : Int) (s2 : ByteArray) (w : World) (H1 : Hid (bE t1 s1 ≠ 0)) :
    Calls Tryd.prog 23 #[.agg #[.int .i64 t1, .string s1], .agg #[.int .i64 t2, .string s2]] w fun e w' => e = .returned (.tuple #[.agg #[.int .i64 0, .string ⟨#[]⟩], .int .i64 (bE t1 s1)]) ∧ Below w.heap.size w w' := by
  have q1 : (bE t1 s1 != 0) = true := by simpa using H1.out
  go_enter Tryd.func23, Tryd.ntmps23
  go_wp2_with fail
  refine (rboth_err t1 s1 t2 s2 _ H1.out).mono ?_
  rintro e w1 ⟨rfl, b1⟩
  have htw := two_third b1
  obtain ⟨⟨c0, f0⟩, ⟨c1, f1⟩⟩ := htw
  have hb := bl3 b1
  obtain ⟨hb1, hz⟩ := hb
  have HB := Lib.hid hb1
  clear hb1 b1
  go_wp2
  exact bodyPost_ret (v := .tuple #[.agg #[.int .i64 0, .string ⟨#[]⟩], .int .i64 (bE t1 s1)]) (by simp [results, Tryd.results23, go_sem, c0, c1]) rfl ⟨rfl, (HB.out.setCell (by simp; omega) _).setCell (by simp; omega) _⟩
set_option maxRecDepth 100000 in
set_option maxHeartbeats 2000000 in
theorem renergy_e2 (t1 : Int) (s1 : ByteArray) (t2 : Int) (s2 : ByteArray) (w : World) (H1 : Hid (bE t1 s1 = 0)) (H2 : Hid (bE t2 s2 ≠ 0)) :
    Calls Tryd.prog 23 #[.agg #[.int .i64 t1, .string s1], .agg #[.int .i64 t2, .string s2]] w fun e w' => e = .returned (.tuple #[.agg #[.int .i64 0, .string ⟨#[]⟩], .int .i64 (bE t2 s2)]) ∧ Below w.heap.size w w' := by
  have q1 : (bE t2 s2 != 0) = true := by simpa using H2.out
  go_enter Tryd.func23, Tryd.ntmps23
  go_wp2_with fail
  refine (rboth_ok t1 s1 t2 s2 _ H1.out).mono ?_
  rintro e w1 ⟨rfl, b1⟩
  have htw := two_third b1
  obtain ⟨⟨c0, f0⟩, ⟨c1, f1⟩⟩ := htw
  have hb := bl3 b1
  obtain ⟨hb1, hz⟩ := hb
  have HB := Lib.hid hb1
  clear hb1 b1
  go_wp2
  exact bodyPost_ret (v := .tuple #[.agg #[.int .i64 0, .string ⟨#[]⟩], .int .i64 (bE t2 s2)]) (by simp [results, Tryd.results23, go_sem, c0, c1]) rfl ⟨rfl, (HB.out.setCell (by simp; omega) _).setCell (by simp; omega) _⟩
set_option maxRecDepth 100000 in
set_option maxHeartbeats 2000000 in
theorem radd_ty (t1 : Int) (s1 : ByteArray) (t2 : Int) (s2 : ByteArray) (w : World) (H1 : Hid (bE t1 s1 = 0)) (H2 : Hid (bE t2 s2 = 0)) (H3 : Hid (bD t1 s1 ≠ bD t2 s2)) :
    Calls Tryd.prog 17 #[.agg #[.int .i64 t1, .string s1], .agg #[.int .i64 t2, .string s2]] w fun e w' => e = .returned (.tuple #[.agg #[.int .i64 0, .string ⟨#[]⟩], .int .i64 10]) ∧ Below w.heap.size w w' := by
  have q1 : (bE t2 s2 != 0) = false := by simpa using H2.out
  have q2 : (bD t1 s1 != bD t2 s2) = true := by simpa using H3.out
  go_enter Tryd.func17, Tryd.ntmps17
  go_wp2_with fail
  refine (rboth_ok t1 s1 t2 s2 _ H1.out).mono ?_
  rintro e w1 ⟨rfl, b1⟩
  have htw := two_third b1
  obtain ⟨⟨c0, f0⟩, ⟨c1, f1⟩⟩ := htw
  have hb := bl3 b1
  obtain ⟨hb1, hz⟩ := hb
  have HB := Lib.hid hb1
  clear hb1 b1
  go_wp2
  exact bodyPost_ret (v := .tuple #[.agg #[.int .i64 0, .string ⟨#[]⟩], .int .i64 10]) (by simp [results, Tryd.results17, go_sem, c0, c1]) rfl ⟨rfl, (HB.out.setCell (by simp; omega) _).setCell (by simp; omega) _⟩
set_option maxRecDepth 100000 in
set_option maxHeartbeats 2000000 in
theorem radd_ok (t1 : Int) (s1 : ByteArray) (t2 : Int) (s2 : ByteArray) (w : World) (H1 : Hid (bE t1 s1 = 0)) (H2 : Hid (bE t2 s2 = 0)) (H3 : Hid (bD t1 s1 = bD t2 s2)) :
    Calls Tryd.prog 17 #[.agg #[.int .i64 t1, .string s1], .agg #[.int .i64 t2, .string s2]] w fun e w' => e = .returned (.tuple #[.agg #[.int .i64 (nT (bD t1 s1) (bV t1 s1 + bV t2 s2)), .string (nS (bD t1 s1) (bV t1 s1 + bV t2 s2))], .int .i64 (nE (bD t1 s1) (bV t1 s1 + bV t2 s2))]) ∧ Below w.heap.size w w' := by
  have q1 : (bE t2 s2 != 0) = false := by simpa using H2.out
  have q2 : (bD t1 s1 != bD t2 s2) = false := by simpa using H3.out
  have hx := bV_bd t1 s1
  have hy := bV_bd t2 s2
  obtain ⟨hx1, hx2⟩ := hx
  obtain ⟨hy1, hy2⟩ := hy
  have HI := Lib.hid (show I64 (bV t1 s1 + bV t2 s2) by unfold I64; omega)
  go_enter Tryd.func17, Tryd.ntmps17
  go_wp2_with fail
  refine (rboth_ok t1 s1 t2 s2 _ H1.out).mono ?_
  rintro e w1 ⟨rfl, b1⟩
  have htw := two_third b1
  obtain ⟨⟨c0, f0⟩, ⟨c1, f1⟩⟩ := htw
  have hb := bl3 b1
  obtain ⟨hb1, hz⟩ := hb
  have HB := Lib.hid hb1
  clear hb1 b1
  go_wp2_with ((go_at_call 19; go_must (refine (rcanon_any (bD t1 s1) (bV t1 s1 + bV t2 s2) _ HI.out).mono ?_); rintro e w2 ⟨rfl, b2⟩; have hold := two_old2 b2 hz c0 c1 f0 f1; obtain ⟨⟨c0', f0'⟩, ⟨c1', f1'⟩⟩ := hold; have HB2 := Lib.hid (HB.out.trans (b2.mono (by omega))); clear c0 c1 f0 f1 b2))
  exact bodyPost_ret (v := .tuple #[.agg #[.int .i64 (nT (bD t1 s1) (bV t1 s1 + bV t2 s2)), .string (nS (bD t1 s1) (bV t1 s1 + bV t2 s2))], .int .i64 (nE (bD t1 s1) (bV t1 s1 + bV t2 s2))]) (by simp [results, Tryd.results17, go_sem, c0', c1']) rfl ⟨rfl, (HB2.out.setCell (by simp; omega) _).setCell (by simp; omega) _⟩
set_option maxRecDepth 100000 in
set_option maxHeartbeats 2000000 in
theorem renergy_d1 (t1 : Int) (s1 : ByteArray) (t2 : Int) (s2 : ByteArray) (w : World) (H1 : Hid (bE t1 s1 = 0)) (H2 : Hid (bE t2 s2 = 0)) (H3 : Hid (bD t1 s1 ≠ 4)) :
    Calls Tryd.prog 23 #[.agg #[.int .i64 t1, .string s1], .agg #[.int .i64 t2, .string s2]] w fun e w' => e = .returned (.tuple #[.agg #[.int .i64 0, .string ⟨#[]⟩], .int .i64 10]) ∧ Below w.heap.size w w' := by
  have q1 : (bE t2 s2 != 0) = false := by simpa using H2.out
  have q2 : (bD t1 s1 != 4) = true := by simpa using H3.out
  go_enter Tryd.func23, Tryd.ntmps23
  go_wp2_with fail
  refine (rboth_ok t1 s1 t2 s2 _ H1.out).mono ?_
  rintro e w1 ⟨rfl, b1⟩
  have htw := two_third b1
  obtain ⟨⟨c0, f0⟩, ⟨c1, f1⟩⟩ := htw
  have hb := bl3 b1
  obtain ⟨hb1, hz⟩ := hb
  have HB := Lib.hid hb1
  clear hb1 b1
  go_wp2
  exact bodyPost_ret (v := .tuple #[.agg #[.int .i64 0, .string ⟨#[]⟩], .int .i64 10]) (by simp [results, Tryd.results23, go_sem, c0, c1]) rfl ⟨rfl, (HB.out.setCell (by simp; omega) _).setCell (by simp; omega) _⟩
set_option maxRecDepth 100000 in
set_option maxHeartbeats 2000000 in
theorem renergy_d2 (t1 : Int) (s1 : ByteArray) (t2 : Int) (s2 : ByteArray) (w : World) (H1 : Hid (bE t1 s1 = 0)) (H2 : Hid (bE t2 s2 = 0)) (H3 : Hid (bD t1 s1 = 4)) (H4 : Hid (bD t2 s2 ≠ 3)) :
    Calls Tryd.prog 23 #[.agg #[.int .i64 t1, .string s1], .agg #[.int .i64 t2, .string s2]] w fun e w' => e = .returned (.tuple #[.agg #[.int .i64 0, .string ⟨#[]⟩], .int .i64 10]) ∧ Below w.heap.size w w' := by
  have q1 : (bE t2 s2 != 0) = false := by simpa using H2.out
  have q2 : (bD t1 s1 != 4) = false := by simpa using H3.out
  have q3 : (bD t2 s2 != 3) = true := by simpa using H4.out
  go_enter Tryd.func23, Tryd.ntmps23
  go_wp2_with fail
  refine (rboth_ok t1 s1 t2 s2 _ H1.out).mono ?_
  rintro e w1 ⟨rfl, b1⟩
  have htw := two_third b1
  obtain ⟨⟨c0, f0⟩, ⟨c1, f1⟩⟩ := htw
  have hb := bl3 b1
  obtain ⟨hb1, hz⟩ := hb
  have HB := Lib.hid hb1
  clear hb1 b1
  go_wp2
  exact bodyPost_ret (v := .tuple #[.agg #[.int .i64 0, .string ⟨#[]⟩], .int .i64 10]) (by simp [results, Tryd.results23, go_sem, c0, c1]) rfl ⟨rfl, (HB.out.setCell (by simp; omega) _).setCell (by simp; omega) _⟩
set_option maxRecDepth 100000 in
set_option maxHeartbeats 2000000 in
theorem renergy_f1 (t1 : Int) (s1 : ByteArray) (t2 : Int) (s2 : ByteArray) (w : World) (H1 : Hid (bE t1 s1 = 0)) (H2 : Hid (bE t2 s2 = 0)) (H3 : Hid (bD t1 s1 = 4)) (H4 : Hid (bD t2 s2 = 3)) (HX : Hid (inB (bV t1 s1) (-1000000000) 1000000000 = false)) :
    Calls Tryd.prog 23 #[.agg #[.int .i64 t1, .string s1], .agg #[.int .i64 t2, .string s2]] w fun e w' => e = .returned (.tuple #[.agg #[.int .i64 0, .string ⟨#[]⟩], .int .i64 11]) ∧ Below w.heap.size w w' := by
  have q1 : (bE t2 s2 != 0) = false := by simpa using H2.out
  have q2 : (bD t1 s1 != 4) = false := by simpa using H3.out
  have q3 : (bD t2 s2 != 3) = false := by simpa using H4.out
  go_enter Tryd.func23, Tryd.ntmps23
  go_wp2_with fail
  refine (rboth_ok t1 s1 t2 s2 _ H1.out).mono ?_
  rintro e w1 ⟨rfl, b1⟩
  have htw := two_third b1
  obtain ⟨⟨c0, f0⟩, ⟨c1, f1⟩⟩ := htw
  have hb := bl3 b1
  obtain ⟨hb1, hz⟩ := hb
  have HB := Lib.hid hb1
  clear hb1 b1
  go_wp2_with (go_at_call 31; go_must (refine (rwithin_any (bV t1 s1) 1000000000 _ (by omega) (by omega)).mono ?_); rintro e w2 ⟨rfl, rfl⟩; rw [HX.out])
  exact bodyPost_ret (v := .tuple #[.agg #[.int .i64 0, .string ⟨#[]⟩], .int .i64 11]) (by simp [results, Tryd.results23, go_sem, c0, c1]) rfl ⟨rfl, (HB.out.setCell (by simp; omega) _).setCell (by simp; omega) _⟩
set_option maxRecDepth 100000 in
set_option maxHeartbeats 2000000 in
theorem renergy_f2 (t1 : Int) (s1 : ByteArray) (t2 : Int) (s2 : ByteArray) (w : World) (H1 : Hid (bE t1 s1 = 0)) (H2 : Hid (bE t2 s2 = 0)) (H3 : Hid (bD t1 s1 = 4)) (H4 : Hid (bD t2 s2 = 3)) (HX : Hid (inB (bV t1 s1) (-1000000000) 1000000000 = true)) (H5 : Hid (bV t2 s2 < 0)) :
    Calls Tryd.prog 23 #[.agg #[.int .i64 t1, .string s1], .agg #[.int .i64 t2, .string s2]] w fun e w' => e = .returned (.tuple #[.agg #[.int .i64 0, .string ⟨#[]⟩], .int .i64 11]) ∧ Below w.heap.size w w' := by
  have q1 : (bE t2 s2 != 0) = false := by simpa using H2.out
  have q2 : (bD t1 s1 != 4) = false := by simpa using H3.out
  have q3 : (bD t2 s2 != 3) = false := by simpa using H4.out
  have q4 : decide (bV t2 s2 < 0) = true := by simpa using H5.out
  go_enter Tryd.func23, Tryd.ntmps23
  go_wp2_with fail
  refine (rboth_ok t1 s1 t2 s2 _ H1.out).mono ?_
  rintro e w1 ⟨rfl, b1⟩
  have htw := two_third b1
  obtain ⟨⟨c0, f0⟩, ⟨c1, f1⟩⟩ := htw
  have hb := bl3 b1
  obtain ⟨hb1, hz⟩ := hb
  have HB := Lib.hid hb1
  clear hb1 b1
  go_wp2_with (go_at_call 31; go_must (refine (rwithin_any (bV t1 s1) 1000000000 _ (by omega) (by omega)).mono ?_); rintro e w2 ⟨rfl, rfl⟩; rw [HX.out])
  exact bodyPost_ret (v := .tuple #[.agg #[.int .i64 0, .string ⟨#[]⟩], .int .i64 11]) (by simp [results, Tryd.results23, go_sem, c0, c1]) rfl ⟨rfl, (HB.out.setCell (by simp; omega) _).setCell (by simp; omega) _⟩
set_option maxRecDepth 100000 in
set_option maxHeartbeats 2000000 in
theorem renergy_f3 (t1 : Int) (s1 : ByteArray) (t2 : Int) (s2 : ByteArray) (w : World) (H1 : Hid (bE t1 s1 = 0)) (H2 : Hid (bE t2 s2 = 0)) (H3 : Hid (bD t1 s1 = 4)) (H4 : Hid (bD t2 s2 = 3)) (HX : Hid (inB (bV t1 s1) (-1000000000) 1000000000 = true)) (H5 : Hid (¬ bV t2 s2 < 0)) (H6 : Hid (1000000000 < bV t2 s2)) :
    Calls Tryd.prog 23 #[.agg #[.int .i64 t1, .string s1], .agg #[.int .i64 t2, .string s2]] w fun e w' => e = .returned (.tuple #[.agg #[.int .i64 0, .string ⟨#[]⟩], .int .i64 11]) ∧ Below w.heap.size w w' := by
  have q1 : (bE t2 s2 != 0) = false := by simpa using H2.out
  have q2 : (bD t1 s1 != 4) = false := by simpa using H3.out
  have q3 : (bD t2 s2 != 3) = false := by simpa using H4.out
  have q4 : decide (bV t2 s2 < 0) = false := by simpa using H5.out
  have q5 : decide (1000000000 < bV t2 s2) = true := by simpa using H6.out
  go_enter Tryd.func23, Tryd.ntmps23
  go_wp2_with fail
  refine (rboth_ok t1 s1 t2 s2 _ H1.out).mono ?_
  rintro e w1 ⟨rfl, b1⟩
  have htw := two_third b1
  obtain ⟨⟨c0, f0⟩, ⟨c1, f1⟩⟩ := htw
  have hb := bl3 b1
  obtain ⟨hb1, hz⟩ := hb
  have HB := Lib.hid hb1
  clear hb1 b1
  go_wp2_with (go_at_call 31; go_must (refine (rwithin_any (bV t1 s1) 1000000000 _ (by omega) (by omega)).mono ?_); rintro e w2 ⟨rfl, rfl⟩; rw [HX.out])
  exact bodyPost_ret (v := .tuple #[.agg #[.int .i64 0, .string ⟨#[]⟩], .int .i64 11]) (by simp [results, Tryd.results23, go_sem, c0, c1]) rfl ⟨rfl, (HB.out.setCell (by simp; omega) _).setCell (by simp; omega) _⟩
set_option maxRecDepth 100000 in
set_option maxHeartbeats 2000000 in
theorem renergy_ok (t1 : Int) (s1 : ByteArray) (t2 : Int) (s2 : ByteArray) (w : World) (H1 : Hid (bE t1 s1 = 0)) (H2 : Hid (bE t2 s2 = 0)) (H3 : Hid (bD t1 s1 = 4)) (H4 : Hid (bD t2 s2 = 3)) (HX : Hid (inB (bV t1 s1) (-1000000000) 1000000000 = true)) (H5 : Hid (¬ bV t2 s2 < 0)) (H6 : Hid (¬ 1000000000 < bV t2 s2)) :
    Calls Tryd.prog 23 #[.agg #[.int .i64 t1, .string s1], .agg #[.int .i64 t2, .string s2]] w fun e w' => e = .returned (.tuple #[.agg #[.int .i64 (nT 5 (bV t1 s1 * bV t2 s2 / 36000)), .string (nS 5 (bV t1 s1 * bV t2 s2 / 36000))], .int .i64 (nE 5 (bV t1 s1 * bV t2 s2 / 36000))]) ∧ Below w.heap.size w w' := by
  have q1 : (bE t2 s2 != 0) = false := by simpa using H2.out
  have q2 : (bD t1 s1 != 4) = false := by simpa using H3.out
  have q3 : (bD t2 s2 != 3) = false := by simpa using H4.out
  have q4 : decide (bV t2 s2 < 0) = false := by simpa using H5.out
  have q5 : decide (1000000000 < bV t2 s2) = false := by simpa using H6.out
  have hm := mul_bd _ _ HX.out (inB_mk (n := bV t2 s2) (lo := 0) (hi := 1000000000) (by have := H5.out; omega) (by have := H6.out; omega))
  obtain ⟨hm1, hm2⟩ := hm
  have HI := Lib.hid (show I64 (bV t1 s1 * bV t2 s2 / 36000) by unfold I64; omega)
  go_enter Tryd.func23, Tryd.ntmps23
  go_wp2_with fail
  refine (rboth_ok t1 s1 t2 s2 _ H1.out).mono ?_
  rintro e w1 ⟨rfl, b1⟩
  have htw := two_third b1
  obtain ⟨⟨c0, f0⟩, ⟨c1, f1⟩⟩ := htw
  have hb := bl3 b1
  obtain ⟨hb1, hz⟩ := hb
  have HB := Lib.hid hb1
  clear hb1 b1
  go_wp2_with (first | (go_at_call 31; go_must (refine (rwithin_any (bV t1 s1) 1000000000 _ (by omega) (by omega)).mono ?_); rintro e w2 ⟨rfl, rfl⟩; rw [HX.out]) | (go_at_call 38; go_must (refine (floor_any (bV t1 s1 * bV t2 s2) _ (by omega) (by omega)).mono ?_); rintro e w2 ⟨rfl, rfl⟩) | (go_at_call 19; go_must (refine (rcanon_any 5 (bV t1 s1 * bV t2 s2 / 36000) _ HI.out).mono ?_); rintro e w2 ⟨rfl, b2⟩; have hold := two_old2 b2 hz c0 c1 f0 f1; obtain ⟨⟨c0', f0'⟩, ⟨c1', f1'⟩⟩ := hold; have HB2 := Lib.hid (HB.out.trans (b2.mono (by omega))); clear c0 c1 f0 f1 b2))
  exact bodyPost_ret (v := .tuple #[.agg #[.int .i64 (nT 5 (bV t1 s1 * bV t2 s2 / 36000)), .string (nS 5 (bV t1 s1 * bV t2 s2 / 36000))], .int .i64 (nE 5 (bV t1 s1 * bV t2 s2 / 36000))]) (by simp [results, Tryd.results23, go_sem, c0', c1']) rfl ⟨rfl, (HB2.out.setCell (by simp; omega) _).setCell (by simp; omega) _⟩
theorem radd_any (t1 : Int) (s1 : ByteArray) (t2 : Int) (s2 : ByteArray) (w : World) :
    Calls Tryd.prog 17 #[.agg #[.int .i64 t1, .string s1], .agg #[.int .i64 t2, .string s2]] w fun e w' => e = .returned (.tuple #[.agg #[.int .i64 (dT t1 s1 t2 s2), .string (dS t1 s1 t2 s2)], .int .i64 (dE t1 s1 t2 s2)]) ∧ Below w.heap.size w w' := by
  by_cases h1 : bE t1 s1 = 0
  · by_cases h2 : bE t2 s2 = 0
    · by_cases hd : bD t1 s1 = bD t2 s2
      · have := radd_ok t1 s1 t2 s2 w (Lib.hid h1) (Lib.hid h2) (Lib.hid hd)
        simpa [dT, dS, dE, pE_zero.2 ⟨h1, h2, hd⟩] using this
      · have := radd_ty t1 s1 t2 s2 w (Lib.hid h1) (Lib.hid h2) (Lib.hid hd)
        simpa [dT, dS, dE, pE_type h1 h2 hd] using this
    · have := radd_e2 t1 s1 t2 s2 w (Lib.hid h1) (Lib.hid h2)
      simpa [dT, dS, dE, aE_no2 h1 h2, h2] using this
  · have := radd_e1 t1 s1 t2 s2 w (Lib.hid h1)
    simpa [dT, dS, dE, aE_no1 (t2 := t2) (s2 := s2) h1, h1] using this
theorem renergy_any (t1 : Int) (s1 : ByteArray) (t2 : Int) (s2 : ByteArray) (w : World) :
    Calls Tryd.prog 23 #[.agg #[.int .i64 t1, .string s1], .agg #[.int .i64 t2, .string s2]] w fun e w' => e = .returned (.tuple #[.agg #[.int .i64 (gT t1 s1 t2 s2), .string (gS t1 s1 t2 s2)], .int .i64 (gE t1 s1 t2 s2)]) ∧ Below w.heap.size w w' := by
  by_cases h1 : bE t1 s1 = 0
  · by_cases h2 : bE t2 s2 = 0
    · have ha := aE_zero.2 ⟨h1, h2⟩
      by_cases hd : bD t1 s1 = 4
      · by_cases he : bD t2 s2 = 3
        · cases hX : inB (bV t1 s1) (-1000000000) 1000000000
          · have := renergy_f1 t1 s1 t2 s2 w (Lib.hid h1) (Lib.hid h2) (Lib.hid hd) (Lib.hid he) (Lib.hid hX)
            simpa [gT, gS, gE, gF, gOk, gIn, ha, hd, he, hX] using this
          · by_cases h5 : bV t2 s2 < 0
            · have hY : inB (bV t2 s2) 0 1000000000 = false := by unfold inB; simp; omega
              have := renergy_f2 t1 s1 t2 s2 w (Lib.hid h1) (Lib.hid h2) (Lib.hid hd) (Lib.hid he) (Lib.hid hX) (Lib.hid h5)
              simpa [gT, gS, gE, gF, gOk, gIn, ha, hd, he, hX, hY] using this
            · by_cases h6 : 1000000000 < bV t2 s2
              · have hY : inB (bV t2 s2) 0 1000000000 = false := by unfold inB; simp; omega
                have := renergy_f3 t1 s1 t2 s2 w (Lib.hid h1) (Lib.hid h2) (Lib.hid hd) (Lib.hid he) (Lib.hid hX) (Lib.hid h5) (Lib.hid h6)
                simpa [gT, gS, gE, gF, gOk, gIn, ha, hd, he, hX, hY] using this
              · have hY : inB (bV t2 s2) 0 1000000000 = true := inB_mk (by omega) (by omega)
                have := renergy_ok t1 s1 t2 s2 w (Lib.hid h1) (Lib.hid h2) (Lib.hid hd) (Lib.hid he) (Lib.hid hX) (Lib.hid h5) (Lib.hid h6)
                simpa [gT, gS, gE, gF, gOk, gIn, gV, ha, hd, he, hX, hY] using this
        · have := renergy_d2 t1 s1 t2 s2 w (Lib.hid h1) (Lib.hid h2) (Lib.hid hd) (Lib.hid he)
          simpa [gT, gS, gE, gF, gOk, ha, hd, he] using this
      · have := renergy_d1 t1 s1 t2 s2 w (Lib.hid h1) (Lib.hid h2) (Lib.hid hd)
        simpa [gT, gS, gE, gF, gOk, ha, hd] using this
    · have ha : aE t1 s1 t2 s2 = bE t2 s2 := by unfold aE; rw [if_pos h1]
      have := renergy_e2 t1 s1 t2 s2 w (Lib.hid h1) (Lib.hid h2)
      simpa [gT, gS, gE, gF, ha, h2] using this
  · have ha : aE t1 s1 t2 s2 = bE t1 s1 := by unfold aE; rw [if_neg h1]
    have := renergy_e1 t1 s1 t2 s2 w (Lib.hid h1)
    simpa [gT, gS, gE, gF, ha, h1] using this
end Go.Proofs.YtbmmmhjgidffpaaDoor
