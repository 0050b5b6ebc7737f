/- The contracts of the reference: 'within', 'Floor', 'Base', 'both', 'Compare', 'Seconds'. -/
import Derived.Test.YtbmmmhjgidffpaaDoorQ
namespace Go.Proofs.YtbmmmhjgidffpaaDoor
open Go.RowKit

theorem rwithin_yes (n m : Int) (w : World) (hm1 : 0 ≤ m) (hm2 : m ≤ 1000000000000000) (h1 : -m ≤ n) (h2 : n ≤ m) :
    Calls Tryd.prog 31 #[.int .i64 n, .int .i64 m] w fun e w' => e = .returned (.bool true) ∧ w = w' := by
  have h3 : decide (-m ≤ n) = true := by simpa using h1
  have h4 : decide (n ≤ m) = true := by simpa using h2
  go_enter Tryd.func31, Tryd.ntmps31
  go_wp2
  go_ret
  exact ⟨rfl, rfl⟩
theorem rwithin_low (n m : Int) (w : World) (hm1 : 0 ≤ m) (hm2 : m ≤ 1000000000000000) (h1 : ¬ -m ≤ n) :
    Calls Tryd.prog 31 #[.int .i64 n, .int .i64 m] w fun e w' => e = .returned (.bool false) ∧ w = w' := by
  have h3 : decide (-m ≤ n) = false := by simpa using h1
  go_enter Tryd.func31, Tryd.ntmps31
  go_wp2
  go_ret
  exact ⟨rfl, rfl⟩
theorem rwithin_high (n m : Int) (w : World) (hm1 : 0 ≤ m) (hm2 : m ≤ 1000000000000000) (h1 : -m ≤ n) (h2 : ¬ n ≤ m) :
    Calls Tryd.prog 31 #[.int .i64 n, .int .i64 m] w fun e w' => e = .returned (.bool false) ∧ w = w' := by
  have h3 : decide (-m ≤ n) = true := by simpa using h1
  have h4 : decide (n ≤ m) = false := by simpa using h2
  go_enter Tryd.func31, Tryd.ntmps31
  go_wp2
  go_ret
  exact ⟨rfl, rfl⟩
theorem rwithin_any (n m : Int) (w : World) (hm1 : 0 ≤ m) (hm2 : m ≤ 1000000000000000) :
    Calls Tryd.prog 31 #[.int .i64 n, .int .i64 m] w fun e w' => e = .returned (.bool (inB n (-m) m)) ∧ w = w' := by
  by_cases h1 : -m ≤ n
  · by_cases h2 : n ≤ m
    · have : inB n (-m) m = true := by unfold inB; simp [h1, h2]
      rw [this]; exact rwithin_yes n m w hm1 hm2 h1 h2
    · have : inB n (-m) m = false := by unfold inB; simp [h2]
      rw [this]; exact rwithin_high n m w hm1 hm2 h1 h2
  · have : inB n (-m) m = false := by unfold inB; simp [h1]
    rw [this]; exact rwithin_low n m w hm1 hm2 h1

theorem floor_eq (n : Int) : n / 36000 = if n < n.tdiv 36000 * 36000 then n.tdiv 36000 - 1 else n.tdiv 36000 := by
  rcases tdiv_split n with ⟨h, h1, h2⟩ | ⟨h, h1, h2⟩ <;> rw [h1] <;> split <;> omega
theorem floor_any (n : Int) (w : World) (h3 : -2000000000000000000 ≤ n) (h4 : n ≤ 2000000000000000000) :
    Calls Tryd.prog 38 #[.int .i64 n, .int .i64 36000] w fun e w' => e = .returned (.int .i64 (n / 36000)) ∧ w = w' := by
  have hq := floor_eq n
  have hw := tdiv_bd n h3 h4
  have hm : wrap64 (n.tdiv 36000 * 36000) = n.tdiv 36000 * 36000 := IntWalk.wrap64_in _ (by rcases tdiv_split n with ⟨h, h1, h2⟩ | ⟨h, h1, h2⟩ <;> rw [h1] <;> omega)
  have HQ := Lib.hid hq
  have hw1 := hw.1
  have HW := Lib.hid hw
  clear hq hw h3 h4
  by_cases h : n < n.tdiv 36000 * 36000
  · have hd : decide (n < n.tdiv 36000 * 36000) = true := by simpa using h
    have HE := Lib.hid (HQ.out.trans (if_pos h))
    clear h HQ
    go_enter Tryd.func38, Tryd.ntmps38
    go_wp2
    go_ret
    exact ⟨ret_int (by rw [HW.out.2, HE.out]), rfl⟩
  · have hd : decide (n < n.tdiv 36000 * 36000) = false := by simpa using h
    have HE := Lib.hid (HQ.out.trans (if_neg h))
    clear h HQ
    go_enter Tryd.func38, Tryd.ntmps38
    go_wp2
    go_ret
    exact ⟨ret_int (by rw [HW.out.1, HE.out]), rfl⟩

theorem tD_zero (s : ByteArray) : (tD (ux s) = 0 ∧ ¬ ux s < 11) ∨ (tD (ux s) ≠ 0 ∧ ux s < 11) := by
  by_cases h : ux s < 11
  · exact .inr ⟨(show ∀ k : Nat, k < 11 → tD k ≠ 0 by decide) _ h, h⟩
  · have : ux s = 11 := by have := ux_le s; omega
    exact .inl ⟨by rw [this]; rfl, h⟩
set_option maxRecDepth 100000 in
set_option maxHeartbeats 1000000 in
theorem rbase_any (t : Int) (s : ByteArray) (w : World) :
    Calls Tryd.prog 13 #[.agg #[.int .i64 t, .string s]] w fun e w' => e = .returned (.tuple #[.int .i64 (bD t s), .int .i64 (bV t s), .int .i64 (bE t s)]) ∧ Below w.heap.size w w' := by
  rcases tD_zero s with ⟨h0, h⟩ | ⟨h0, h⟩
  · have hE : bE t s = 7 := by unfold bE; rw [if_neg h]
    have hV := Lib.hid (show bD t s = 0 ∧ bV t s = 0 ∧ bE t s = 7 by unfold bD bV; rw [hE]; exact ⟨rfl, rfl, rfl⟩)
    have q1 : (tD (ux s) == 0) = true := by simpa using h0
    clear h0 h hE
    go_enter Tryd.func13, Tryd.ntmps13
    go_wp2_with (go_at_call 26; go_must (refine (unit26_any s _).mono ?_); rintro e w1 ⟨rfl, rfl⟩)
    go_ret3
    exact ⟨by rw [hV.out.1, hV.out.2.1, hV.out.2.2]; rfl, (Below.refl _ _).alloc (Nat.le_refl _) _⟩
  · have q1 : (tD (ux s) == 0) = false := by simpa using h0
    have hF := tF_pos _ h
    obtain ⟨hF1, hF2⟩ := hF
    cases hi : inB t (-1000000000) 1000000000
    · have hE : bE t s = 11 := by unfold bE; rw [if_pos h, hi]; rfl
      have hV := Lib.hid (show bD t s = 0 ∧ bV t s = 0 ∧ bE t s = 11 by unfold bD bV; rw [hE]; exact ⟨rfl, rfl, rfl⟩)
      have HI := Lib.hid hi
      clear h0 h hE hi
      go_enter Tryd.func13, Tryd.ntmps13
      go_wp2_with (first | (go_at_call 26; go_must (refine (unit26_any s _).mono ?_); rintro e w1 ⟨rfl, rfl⟩) | (go_at_call 31; go_must (refine (rwithin_any t 1000000000 _ (by omega) (by omega)).mono ?_); rintro e w1 ⟨rfl, rfl⟩; rw [HI.out]))
      go_ret3
      exact ⟨by rw [hV.out.1, hV.out.2.1, hV.out.2.2]; rfl, (Below.refl _ _).alloc (Nat.le_refl _) _⟩
    · have hE : bE t s = 0 := by unfold bE; rw [if_pos h, hi]; rfl
      have hV := Lib.hid (show bD t s = tD (ux s) ∧ bV t s = t * tF (ux s) ∧ bE t s = 0 by unfold bD bV; rw [hE]; exact ⟨rfl, rfl, rfl⟩)
      have HI := Lib.hid hi
      have hb : -1000000000 ≤ t ∧ t ≤ 1000000000 := by simpa [inB] using hi
      have hm := mul_in t _ hb.1 hb.2 hF1 hF2
      obtain ⟨hm1, hm2⟩ := hm
      clear h0 h hE hi hb
      go_enter Tryd.func13, Tryd.ntmps13
      go_wp2_with (first | (go_at_call 26; go_must (refine (unit26_any s _).mono ?_); rintro e w1 ⟨rfl, rfl⟩) | (go_at_call 31; go_must (refine (rwithin_any t 1000000000 _ (by omega) (by omega)).mono ?_); rintro e w1 ⟨rfl, rfl⟩; rw [HI.out]))
      go_quiet (fail)
      go_wp2
      go_ret3
      exact ⟨by rw [hV.out.1, hV.out.2.1, hV.out.2.2]; rfl, ((Below.refl _ _).alloc (Nat.le_refl _) _).trans (below_drewN' _ _ _)⟩

theorem results_tmp5 {fn : Func} {t u v x y : Tmp} (h : fn.results = #[.tmp t, .tmp u, .tmp v, .tmp x, .tmp y]) (tmps : Array Value) (P : Program) (w : World) :
    (results fn tmps).run P w = .ok (.tuple #[tmps.getD t undef, tmps.getD u undef, tmps.getD v undef, tmps.getD x undef, tmps.getD y undef]) w := by simp [results, h]
/-- What the reference's 'both' gives. -/
def rD1 (t1 : Int) (s1 : ByteArray) : Int := bD t1 s1
set_option maxRecDepth 100000 in
set_option maxHeartbeats 1000000 in
theorem rboth_err (t1 : Int) (s1 : ByteArray) (t2 : Int) (s2 : ByteArray) (w : World) (h : bE t1 s1 ≠ 0) :
    Calls Tryd.prog 33 #[.agg #[.int .i64 t1, .string s1], .agg #[.int .i64 t2, .string s2]] w fun e w' => e = .returned (.tuple #[.int .i64 0, .int .i64 0, .int .i64 0, .int .i64 0, .int .i64 (bE t1 s1)]) ∧ Below w.heap.size w w' := by
  have h1 : (bE t1 s1 != 0) = true := by simpa using h
  clear h
  go_enter Tryd.func33, Tryd.ntmps33
  go_wp2_with (go_at_call 13; go_must (refine (rbase_any t1 s1 _).mono ?_); rintro e w1 ⟨rfl, b1⟩)
  refine bodyPost_ret (results_tmp5 rfl _ _ _) rfl ?_
  exact ⟨rfl, bl2 b1⟩
set_option maxRecDepth 100000 in
set_option maxHeartbeats 1000000 in
theorem rboth_ok (t1 : Int) (s1 : ByteArray) (t2 : Int) (s2 : ByteArray) (w : World) (h : bE t1 s1 = 0) :
    Calls Tryd.prog 33 #[.agg #[.int .i64 t1, .string s1], .agg #[.int .i64 t2, .string s2]] w fun e w' => e = .returned (.tuple #[.int .i64 (bD t1 s1), .int .i64 (bV t1 s1), .int .i64 (bD t2 s2), .int .i64 (bV t2 s2), .int .i64 (bE t2 s2)]) ∧ Below w.heap.size w w' := by
  have h1 : (bE t1 s1 != 0) = false := by simpa using h
  have K0 := Lib.hid (QAt.new (w.alloc (.cells #[.int .i64 t1, .string s1] 23)) t2 s2 23 (w.heap.size + 1) (by simp))
  clear h
  go_enter Tryd.func33, Tryd.ntmps33
  go_wp2_with fail
  refine (rbase_any t1 s1 _).mono ?_
  rintro e w1 ⟨rfl, b1⟩
  have K1 := (K0.out.step b1).lay
  obtain ⟨⟨x1, y1⟩, z1⟩ := K1
  have HB := Lib.hid (bl2 b1)
  clear b1
  go_wp2_with fail
  refine (rbase_any t2 s2 _).mono ?_
  rintro e w2 ⟨rfl, b2⟩
  have HB2 := Lib.hid (keep2 b2 HB.out)
  clear b2
  go_wp2_with fail
  refine bodyPost_ret (results_tmp5 rfl _ _ _) rfl ?_
  exact ⟨rfl, HB2.out⟩
theorem below_two' {w w1 : World} {o1 o2 : Obj} (hb : Below ((w.alloc o1).alloc o2).heap.size ((w.alloc o1).alloc o2) w1) : Below w.heap.size w w1 := bl2 hb
theorem aE_no1 {t1 : Int} {s1 : ByteArray} {t2 : Int} {s2 : ByteArray} (h : bE t1 s1 ≠ 0) : pE t1 s1 t2 s2 = bE t1 s1 := by
  have : aE t1 s1 t2 s2 = bE t1 s1 := by unfold aE; rw [if_neg h]
  unfold pE; rw [this, if_neg h]
theorem aE_no2 {t1 : Int} {s1 : ByteArray} {t2 : Int} {s2 : ByteArray} (h : bE t1 s1 = 0) (g : bE t2 s2 ≠ 0) : pE t1 s1 t2 s2 = bE t2 s2 := by
  have : aE t1 s1 t2 s2 = bE t2 s2 := by unfold aE; rw [if_pos h]
  unfold pE; rw [this, if_neg g]
theorem cV_no {t1 : Int} {s1 : ByteArray} {t2 : Int} {s2 : ByteArray} (h : pE t1 s1 t2 s2 ≠ 0) : cV t1 s1 t2 s2 = 0 := by unfold cV; rw [if_neg h]
set_option maxRecDepth 100000 in
set_option maxHeartbeats 2000000 in
theorem rcompare_any (t1 : Int) (s1 : ByteArray) (t2 : Int) (s2 : ByteArray) (w : World) :
    Calls Tryd.prog 15 #[.agg #[.int .i64 t1, .string s1], .agg #[.int .i64 t2, .string s2]] w fun e w' => e = .returned (.tuple #[.int .i64 (cV t1 s1 t2 s2), .int .i64 (pE t1 s1 t2 s2)]) ∧ Below w.heap.size w w' := by
  by_cases h1 : bE t1 s1 = 0
  · by_cases h2 : bE t2 s2 = 0
    · have q2 : (bE t2 s2 != 0) = false := by simpa using h2
      have H1 := Lib.hid h1
      by_cases hd : bD t1 s1 = bD t2 s2
      · have hp := pE_zero.2 ⟨h1, h2, hd⟩
        have HR := Lib.hid (show cV t1 s1 t2 s2 = cmp (bV t1 s1) (bV t2 s2) ∧ pE t1 s1 t2 s2 = 0 from ⟨cV_ok hp, hp⟩)
        have q3 : (bD t1 s1 != bD t2 s2) = false := by simpa using hd
        clear h1 h2 hd hp
        rcases cmp_cases (bV t1 s1) (bV t2 s2) with ⟨hl, hc, _⟩ | ⟨hl, hc, _⟩ | ⟨hl, hc, _⟩
        · have q4 : decide (bV t1 s1 < bV t2 s2) = true := by simpa using hl
          have HC := Lib.hid hc
          clear hl hc
          go_enter Tryd.func15, Tryd.ntmps15
          go_wp2_with (go_at_call 33; go_must (refine (rboth_ok t1 s1 t2 s2 _ H1.out).mono ?_); rintro e w1 ⟨rfl, b1⟩)
          go_ret2
          exact ⟨by rw [HR.out.1, HR.out.2, HC.out]; rfl, bl2 b1⟩
        · have q4 : decide (bV t1 s1 < bV t2 s2) = false := by simp; omega
          have q5 : decide (bV t2 s2 < bV t1 s1) = false := by simp; omega
          have HC := Lib.hid hc
          clear hl hc
          go_enter Tryd.func15, Tryd.ntmps15
          go_wp2_with (go_at_call 33; go_must (refine (rboth_ok t1 s1 t2 s2 _ H1.out).mono ?_); rintro e w1 ⟨rfl, b1⟩)
          go_ret2
          exact ⟨by rw [HR.out.1, HR.out.2, HC.out]; rfl, bl2 b1⟩
        · have q4 : decide (bV t1 s1 < bV t2 s2) = false := by simp; omega
          have q5 : decide (bV t2 s2 < bV t1 s1) = true := by simpa using hl
          have HC := Lib.hid hc
          clear hl hc
          go_enter Tryd.func15, Tryd.ntmps15
          go_wp2_with (go_at_call 33; go_must (refine (rboth_ok t1 s1 t2 s2 _ H1.out).mono ?_); rintro e w1 ⟨rfl, b1⟩)
          go_ret2
          exact ⟨by rw [HR.out.1, HR.out.2, HC.out]; rfl, bl2 b1⟩
      · have hp := pE_type h1 h2 hd
        have HR := Lib.hid (show cV t1 s1 t2 s2 = 0 ∧ pE t1 s1 t2 s2 = 10 from ⟨cV_no (by rw [hp]; decide), hp⟩)
        have q3 : (bD t1 s1 != bD t2 s2) = true := by simpa using hd
        clear h1 h2 hd hp
        go_enter Tryd.func15, Tryd.ntmps15
        go_wp2_with (go_at_call 33; go_must (refine (rboth_ok t1 s1 t2 s2 _ H1.out).mono ?_); rintro e w1 ⟨rfl, b1⟩)
        go_ret2
        exact ⟨by rw [HR.out.1, HR.out.2]; rfl, bl2 b1⟩
    · have hp := aE_no2 h1 h2
      have HR := Lib.hid (show cV t1 s1 t2 s2 = 0 ∧ pE t1 s1 t2 s2 = bE t2 s2 from ⟨cV_no (by rw [hp]; exact h2), hp⟩)
      have q2 : (bE t2 s2 != 0) = true := by simpa using h2
      have H1 := Lib.hid h1
      clear h1 h2 hp
      go_enter Tryd.func15, Tryd.ntmps15
      go_wp2_with (go_at_call 33; go_must (refine (rboth_ok t1 s1 t2 s2 _ H1.out).mono ?_); rintro e w1 ⟨rfl, b1⟩)
      go_ret2
      exact ⟨by rw [HR.out.1, HR.out.2]; rfl, bl2 b1⟩
  · have hp := aE_no1 (t2 := t2) (s2 := s2) h1
    have HR := Lib.hid (show cV t1 s1 t2 s2 = 0 ∧ pE t1 s1 t2 s2 = bE t1 s1 from ⟨cV_no (by rw [hp]; exact h1), hp⟩)
    have q2 : (bE t1 s1 != 0) = true := by simpa using h1
    have H1 := Lib.hid h1
    clear h1 hp
    go_enter Tryd.func15, Tryd.ntmps15
    go_wp2_with (go_at_call 33; go_must (refine (rboth_err t1 s1 t2 s2 _ H1.out).mono ?_); rintro e w1 ⟨rfl, b1⟩)
    go_ret2
    exact ⟨by rw [HR.out.1, HR.out.2]; rfl, bl2 b1⟩
set_option maxRecDepth 100000 in
set_option maxHeartbeats 1000000 in
theorem rseconds_any (t : Int) (s : ByteArray) (w : World) :
    Calls Tryd.prog 21 #[.agg #[.int .i64 t, .string s]] w fun e w' => e = .returned (.tuple #[.int .i64 (sV t s), .int .i64 (sE t s)]) ∧ Below w.heap.size w w' := by
  have hb := bV_bd t s
  have hw := tdiv10 _ hb.1 hb.2
  clear hb
  by_cases h : bE t s = 0
  · have h0 : (bE t s != 0) = false := by simpa using h
    by_cases h3 : bD t s = 3
    · have h3' : (bD t s != 3) = false := by simpa using h3
      by_cases hm : (bV t s).tmod 10 = 0
      · have hm' : ((bV t s).tmod 10 != 0) = false := by simpa using hm
        have hE := Lib.hid (show sE t s = 0 by simp [sE, h, h3, hm])
        have hV := Lib.hid (show sV t s = (bV t s).tdiv 10 by simp [sV, hE.out])
        clear h h3 hm
        go_enter Tryd.func21, Tryd.ntmps21
        go_wp2_with (go_at_call 13; go_must (refine (rbase_any t s _).mono ?_); rintro e w1 ⟨rfl, b1⟩)
        go_ret2
        exact ⟨by show Ending.returned (.tuple #[.int .i64 (wrap64 ((bV t s).tdiv 10)), .int .i64 0]) = _; rw [hw, hE.out, hV.out], bl1 b1⟩
      · have hm' : ((bV t s).tmod 10 != 0) = true := by simpa using hm
        have hE := Lib.hid (show sE t s = 11 by simp [sE, h, h3, hm])
        have hV := Lib.hid (show sV t s = 0 by simp [sV, hE.out])
        clear h h3 hm
        go_enter Tryd.func21, Tryd.ntmps21
        go_wp2_with (go_at_call 13; go_must (refine (rbase_any t s _).mono ?_); rintro e w1 ⟨rfl, b1⟩)
        go_ret2
        exact ⟨by rw [hE.out, hV.out]; rfl, bl1 b1⟩
    · have h3' : (bD t s != 3) = true := by simpa using h3
      have hE := Lib.hid (show sE t s = 10 by simp [sE, h, h3])
      have hV := Lib.hid (show sV t s = 0 by simp [sV, hE.out])
      clear h h3
      go_enter Tryd.func21, Tryd.ntmps21
      go_wp2_with (go_at_call 13; go_must (refine (rbase_any t s _).mono ?_); rintro e w1 ⟨rfl, b1⟩)
      go_ret2
      exact ⟨by rw [hE.out, hV.out]; rfl, bl1 b1⟩
  · have h0 : (bE t s != 0) = true := by simpa using h
    have hE := Lib.hid (show sE t s = bE t s by simp [sE, h])
    have hV := Lib.hid (show sV t s = 0 by simp [sV, hE.out, h])
    clear h
    go_enter Tryd.func21, Tryd.ntmps21
    go_wp2_with (go_at_call 13; go_must (refine (rbase_any t s _).mono ?_); rintro e w1 ⟨rfl, b1⟩)
    go_ret2
    exact ⟨by rw [hE.out, hV.out]; rfl, bl1 b1⟩
end Go.Proofs.YtbmmmhjgidffpaaDoor
