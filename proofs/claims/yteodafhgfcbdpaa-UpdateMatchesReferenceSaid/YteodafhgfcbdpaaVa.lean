import Derived.Test.YteodafhgfcbdpaaUn
import Derived.Test.YteodafhgfcbdpaaUd
namespace Go.Proofs.Yteodafhgfcbdpaa
open Go.RowKit

theorem inB_pt {a x : Int} (h : ¬ x = a) : inB a a x = false := by
  cases q : inB a a x
  · rfl
  · have := inB_iff.1 q; omega
set_option maxRecDepth 100000 in
set_option maxHeartbeats 8000000 in
theorem rbtw_any (n lo hi : Int) (w : World) : Calls Try.prog 41 #[.int .i64 n, .int .i64 lo, .int .i64 hi] w fun e w' => e = .returned (.bool (inB lo hi n)) ∧ w = w' := by
  by_cases h1 : lo ≤ n
  · have e1 : decide (n ≥ lo) = true := by simp; omega
    have e1b : decide (lo ≤ n) = true := by simp; omega
    by_cases h2 : n ≤ hi
    · have e2 : decide (n ≤ hi) = true := by simp; omega
      have HR := Lib.hid (show inB lo hi n = true from inB_iff.2 ⟨h1, h2⟩)
      clear h1 h2
      go_enter Try.func41, Try.ntmps41
      go_wp2
      go_ret
      exact ⟨ret_bool HR.out.symm, rfl⟩
    · have e2 : decide (n ≤ hi) = false := by simp; omega
      have HR := Lib.hid (show inB lo hi n = false from inB_high (by omega))
      clear h1 h2
      go_enter Try.func41, Try.ntmps41
      go_wp2
      go_ret
      exact ⟨ret_bool HR.out.symm, rfl⟩
  · have e1 : decide (n ≥ lo) = false := by simp; omega
    have e1b : decide (lo ≤ n) = false := by simp; omega
    have HR := Lib.hid (show inB lo hi n = false from inB_low (by omega))
    clear h1
    go_enter Try.func41, Try.ntmps41
    go_wp2
    go_ret
    exact ⟨ret_bool HR.out.symm, rfl⟩
theorem rdig_any (n : Int) (w : World) : Calls Try.prog 40 #[.int .i64 n] w fun e w' => e = .returned (.bool (inB 0 2147483646 n)) ∧ w = w' := by
  go_enter Try.func40, Try.ntmps40
  go_wp2_with fail
  refine (rbtw_any n 0 2147483646 _).mono ?_
  rintro e w' ⟨rfl, rfl⟩
  go_wp2
  go_ret
  exact ⟨rfl, rfl⟩
set_option maxRecDepth 100000 in
set_option maxHeartbeats 8000000 in
theorem rdata_any (v : Value) (l : List Int) (w : World) (h : IntsAt w v l) : Calls Try.prog 42 #[v] w fun e w' => e = .returned (.bool (daB l)) ∧ w = w' := by
  obtain ⟨p, cap, rfl, hm, hc⟩ := h
  unfold maxLen at hm
  have HC := Lib.hid hc
  clear hc
  go_enter Try.func42, Try.ntmps42
  go_wp2_with fail
  go_loopw [3] (fun i wr => ∃ k : Nat, k ≤ l.length ∧ i = .int .i64 k ∧ Hid (∀ j, j < k → inB (-1000000000) 1000000000 (l.getD j 0) = true) ∧ wr = w) (fun i _ => l.length - (intOf i).toNat)
  case atStart => exact ⟨0, by omega, rfl, Lib.hid (fun j h => absurd h (by omega)), rfl⟩
  case round =>
    obtain ⟨k, hk, rfl, HN, rfl⟩ := hrel
    by_cases hlt : k < l.length
    · obtain ⟨b1, off, rfl, hcs2⟩ := HC.out (by intro h; rw [h] at hlt; simp at hlt)
      have x0 := hcs2 k _ (getD_of hlt)
      clear hcs2
      have HF := Lib.hid (wi_hit (a := -1000000000) (b := 1000000000) hlt)
      have HN2 := Lib.hid (show inB (-1000000000) 1000000000 (l.getD k 0) = true → ∀ j, j < k + 1 → inB (-1000000000) 1000000000 (l.getD j 0) = true from fun hx j h => by
        by_cases e : j = k
        · subst e; exact hx
        · exact HN.out j (by omega))
      clear HN
      have HLT := Lib.hid hlt
      have t1 : (k : Int) < (l.length : Int) := by omega
      generalize l.getD k 0 = x at *
      go_wp2_with fail
      refine (rbtw_any x (-1000000000) 1000000000 _).mono ?_
      rintro e w' ⟨rfl, rfl⟩
      cases hx : inB (-1000000000) 1000000000 x
      · have HB := Lib.hid (HF.out hx)
        go_wp2
        go_ret
        exact ⟨ret_bool HB.out.symm, rfl⟩
      · have HB := Lib.hid (HN2.out hx)
        go_wp2
        go_roundw
        case rel => exact ⟨k + 1, HLT.out, by go_num, HB, trivial⟩
        case measure => have := HLT.out; simp [intOf]; omega
    · obtain rfl : k = l.length := by omega
      have HA := Lib.hid (wi_all HN.out)
      have t3 : ¬ (l.length : Int) < (l.length : Int) := by omega
      go_wp2
      go_ret
      exact ⟨ret_bool HA.out.symm, rfl⟩
set_option maxRecDepth 100000 in
set_option maxHeartbeats 8000000 in
theorem rmanif_0 (m : Mf) (w : World) (hk0 : inB 1 1000000 m.v = false) : Calls Try.prog 49 #[.agg #[.int .i64 m.v, .int .i64 m.c, .int .i64 m.s, .int .i64 m.r, .int .i64 m.t]] w fun e w' => e = .returned (.bool (mfB m)) ∧ Below w.heap.size w w' := by
  have HR := Lib.hid (show mfB m = false by unfold mfB; rw [hk0]; simp)
  have HK0 := Lib.hid hk0
  clear hk0
  have H0 := Lib.hid (Below.refl w.heap.size w)
  have H1 := Lib.hid (Cs.newB H0.out (w.heap.size) #[.int .i64 m.v, .int .i64 m.c, .int .i64 m.s, .int .i64 m.r, .int .i64 m.t] 24 (by simp))
  have H2 := Lib.hid (keep2 (al _ (.cells #[.int .i64 m.v, .int .i64 m.c, .int .i64 m.s, .int .i64 m.r, .int .i64 m.t] 24)) H0.out)
  clear H0
  go_enter Try.func49, Try.ntmps49
  have xm0 := H1.out.c 0 rfl
  have xm1 := H1.out.c 1 rfl
  have xm2 := H1.out.c 2 rfl
  have xm3 := H1.out.c 3 rfl
  have xm4 := H1.out.c 4 rfl
  have zm := H1.out.2.2
  go_wp2_with fail
  refine (rbtw_any m.v 1 1000000 _).mono ?_
  rintro e wq3 ⟨rfl, rfl⟩
  rw [HK0.out]
  go_wp2
  go_ret
  exact ⟨ret_bool HR.out.symm, H2.out⟩
set_option maxRecDepth 100000 in
set_option maxHeartbeats 8000000 in
theorem rmanif_1 (m : Mf) (w : World) (hk0 : inB 1 1000000 m.v = true) (hk1 : inB 1 64 m.c = false) : Calls Try.prog 49 #[.agg #[.int .i64 m.v, .int .i64 m.c, .int .i64 m.s, .int .i64 m.r, .int .i64 m.t]] w fun e w' => e = .returned (.bool (mfB m)) ∧ Below w.heap.size w w' := by
  have HR := Lib.hid (show mfB m = false by unfold mfB; rw [hk0, hk1]; simp)
  have HK0 := Lib.hid hk0
  clear hk0
  have HK1 := Lib.hid hk1
  clear hk1
  have H0 := Lib.hid (Below.refl w.heap.size w)
  have H1 := Lib.hid (Cs.newB H0.out (w.heap.size) #[.int .i64 m.v, .int .i64 m.c, .int .i64 m.s, .int .i64 m.r, .int .i64 m.t] 24 (by simp))
  have H2 := Lib.hid (keep2 (al _ (.cells #[.int .i64 m.v, .int .i64 m.c, .int .i64 m.s, .int .i64 m.r, .int .i64 m.t] 24)) H0.out)
  clear H0
  go_enter Try.func49, Try.ntmps49
  have xm0 := H1.out.c 0 rfl
  have xm1 := H1.out.c 1 rfl
  have xm2 := H1.out.c 2 rfl
  have xm3 := H1.out.c 3 rfl
  have xm4 := H1.out.c 4 rfl
  have zm := H1.out.2.2
  go_wp2_with fail
  refine (rbtw_any m.v 1 1000000 _).mono ?_
  rintro e wq3 ⟨rfl, rfl⟩
  rw [HK0.out]
  go_wp2_with fail
  refine (rbtw_any m.c 1 64 _).mono ?_
  rintro e wq4 ⟨rfl, rfl⟩
  rw [HK1.out]
  go_wp2
  go_ret
  exact ⟨ret_bool HR.out.symm, H2.out⟩
set_option maxRecDepth 100000 in
set_option maxHeartbeats 8000000 in
theorem rmanif_2 (m : Mf) (w : World) (hk0 : inB 1 1000000 m.v = true) (hk1 : inB 1 64 m.c = true) (hk2 : inB 1 32 m.s = false) : Calls Try.prog 49 #[.agg #[.int .i64 m.v, .int .i64 m.c, .int .i64 m.s, .int .i64 m.r, .int .i64 m.t]] w fun e w' => e = .returned (.bool (mfB m)) ∧ Below w.heap.size w w' := by
  have HR := Lib.hid (show mfB m = false by unfold mfB; rw [hk0, hk1, hk2]; simp)
  have HK0 := Lib.hid hk0
  clear hk0
  have HK1 := Lib.hid hk1
  clear hk1
  have HK2 := Lib.hid hk2
  clear hk2
  have H0 := Lib.hid (Below.refl w.heap.size w)
  have H1 := Lib.hid (Cs.newB H0.out (w.heap.size) #[.int .i64 m.v, .int .i64 m.c, .int .i64 m.s, .int .i64 m.r, .int .i64 m.t] 24 (by simp))
  have H2 := Lib.hid (keep2 (al _ (.cells #[.int .i64 m.v, .int .i64 m.c, .int .i64 m.s, .int .i64 m.r, .int .i64 m.t] 24)) H0.out)
  clear H0
  go_enter Try.func49, Try.ntmps49
  have xm0 := H1.out.c 0 rfl
  have xm1 := H1.out.c 1 rfl
  have xm2 := H1.out.c 2 rfl
  have xm3 := H1.out.c 3 rfl
  have xm4 := H1.out.c 4 rfl
  have zm := H1.out.2.2
  go_wp2_with fail
  refine (rbtw_any m.v 1 1000000 _).mono ?_
  rintro e wq3 ⟨rfl, rfl⟩
  rw [HK0.out]
  go_wp2_with fail
  refine (rbtw_any m.c 1 64 _).mono ?_
  rintro e wq4 ⟨rfl, rfl⟩
  rw [HK1.out]
  go_wp2_with fail
  refine (rbtw_any m.s 1 32 _).mono ?_
  rintro e wq5 ⟨rfl, rfl⟩
  rw [HK2.out]
  go_wp2
  go_ret
  exact ⟨ret_bool HR.out.symm, H2.out⟩
set_option maxRecDepth 100000 in
set_option maxHeartbeats 8000000 in
theorem rmanif_3 (m : Mf) (w : World) (hk0 : inB 1 1000000 m.v = true) (hk1 : inB 1 64 m.c = true) (hk2 : inB 1 32 m.s = true) (hk3 : inB 0 2147483646 m.r = false) : Calls Try.prog 49 #[.agg #[.int .i64 m.v, .int .i64 m.c, .int .i64 m.s, .int .i64 m.r, .int .i64 m.t]] w fun e w' => e = .returned (.bool (mfB m)) ∧ Below w.heap.size w w' := by
  have HR := Lib.hid (show mfB m = false by unfold mfB; rw [hk0, hk1, hk2, hk3]; simp)
  have HK0 := Lib.hid hk0
  clear hk0
  have HK1 := Lib.hid hk1
  clear hk1
  have HK2 := Lib.hid hk2
  clear hk2
  have HK3 := Lib.hid hk3
  clear hk3
  have H0 := Lib.hid (Below.refl w.heap.size w)
  have H1 := Lib.hid (Cs.newB H0.out (w.heap.size) #[.int .i64 m.v, .int .i64 m.c, .int .i64 m.s, .int .i64 m.r, .int .i64 m.t] 24 (by simp))
  have H2 := Lib.hid (keep2 (al _ (.cells #[.int .i64 m.v, .int .i64 m.c, .int .i64 m.s, .int .i64 m.r, .int .i64 m.t] 24)) H0.out)
  clear H0
  go_enter Try.func49, Try.ntmps49
  have xm0 := H1.out.c 0 rfl
  have xm1 := H1.out.c 1 rfl
  have xm2 := H1.out.c 2 rfl
  have xm3 := H1.out.c 3 rfl
  have xm4 := H1.out.c 4 rfl
  have zm := H1.out.2.2
  go_wp2_with fail
  refine (rbtw_any m.v 1 1000000 _).mono ?_
  rintro e wq3 ⟨rfl, rfl⟩
  rw [HK0.out]
  go_wp2_with fail
  refine (rbtw_any m.c 1 64 _).mono ?_
  rintro e wq4 ⟨rfl, rfl⟩
  rw [HK1.out]
  go_wp2_with fail
  refine (rbtw_any m.s 1 32 _).mono ?_
  rintro e wq5 ⟨rfl, rfl⟩
  rw [HK2.out]
  go_wp2_with fail
  refine (rdig_any m.r _).mono ?_
  rintro e wq6 ⟨rfl, rfl⟩
  rw [HK3.out]
  go_wp2
  go_ret
  exact ⟨ret_bool HR.out.symm, H2.out⟩
set_option maxRecDepth 100000 in
set_option maxHeartbeats 8000000 in
theorem rmanif_4 (m : Mf) (w : World) (hk0 : inB 1 1000000 m.v = true) (hk1 : inB 1 64 m.c = true) (hk2 : inB 1 32 m.s = true) (hk3 : inB 0 2147483646 m.r = true) : Calls Try.prog 49 #[.agg #[.int .i64 m.v, .int .i64 m.c, .int .i64 m.s, .int .i64 m.r, .int .i64 m.t]] w fun e w' => e = .returned (.bool (mfB m)) ∧ Below w.heap.size w w' := by
  have HR := Lib.hid (show mfB m = inB 0 2147483646 m.t by unfold mfB; rw [hk0, hk1, hk2, hk3]; simp)
  have HK0 := Lib.hid hk0
  clear hk0
  have HK1 := Lib.hid hk1
  clear hk1
  have HK2 := Lib.hid hk2
  clear hk2
  have HK3 := Lib.hid hk3
  clear hk3
  have H0 := Lib.hid (Below.refl w.heap.size w)
  have H1 := Lib.hid (Cs.newB H0.out (w.heap.size) #[.int .i64 m.v, .int .i64 m.c, .int .i64 m.s, .int .i64 m.r, .int .i64 m.t] 24 (by simp))
  have H2 := Lib.hid (keep2 (al _ (.cells #[.int .i64 m.v, .int .i64 m.c, .int .i64 m.s, .int .i64 m.r, .int .i64 m.t] 24)) H0.out)
  clear H0
  go_enter Try.func49, Try.ntmps49
  have xm0 := H1.out.c 0 rfl
  have xm1 := H1.out.c 1 rfl
  have xm2 := H1.out.c 2 rfl
  have xm3 := H1.out.c 3 rfl
  have xm4 := H1.out.c 4 rfl
  have zm := H1.out.2.2
  go_wp2_with fail
  refine (rbtw_any m.v 1 1000000 _).mono ?_
  rintro e wq3 ⟨rfl, rfl⟩
  rw [HK0.out]
  go_wp2_with fail
  refine (rbtw_any m.c 1 64 _).mono ?_
  rintro e wq4 ⟨rfl, rfl⟩
  rw [HK1.out]
  go_wp2_with fail
  refine (rbtw_any m.s 1 32 _).mono ?_
  rintro e wq5 ⟨rfl, rfl⟩
  rw [HK2.out]
  go_wp2_with fail
  refine (rdig_any m.r _).mono ?_
  rintro e wq6 ⟨rfl, rfl⟩
  rw [HK3.out]
  go_wp2_with fail
  refine (rdig_any m.t _).mono ?_
  rintro e wq7 ⟨rfl, rfl⟩
  go_wp2
  go_ret
  exact ⟨ret_bool HR.out.symm, H2.out⟩
set_option maxRecDepth 100000 in
set_option maxHeartbeats 8000000 in
theorem rmanif_any (m : Mf) (w : World) : Calls Try.prog 49 #[.agg #[.int .i64 m.v, .int .i64 m.c, .int .i64 m.s, .int .i64 m.r, .int .i64 m.t]] w fun e w' => e = .returned (.bool (mfB m)) ∧ Below w.heap.size w w' := by
  cases h0 : inB 1 1000000 m.v
  · exact rmanif_0 m w h0
  · skip
    cases h1 : inB 1 64 m.c
    · exact rmanif_1 m w h0 h1
    · skip
      cases h2 : inB 1 32 m.s
      · exact rmanif_2 m w h0 h1 h2
      · skip
        cases h3 : inB 0 2147483646 m.r
        · exact rmanif_3 m w h0 h1 h2 h3
        · exact rmanif_4 m w h0 h1 h2 h3
set_option maxRecDepth 100000 in
set_option maxHeartbeats 8000000 in
theorem rfits_d (m : Mf) (i : Int) (v : Value) (l : List Int) (w : World) (h : IntsAt w v l) (hm : mfB m = true) (_ : inB 0 (m.c - 1) i = true) (hd : daB l = false) : Calls Try.prog 54 #[.agg #[.int .i64 m.v, .int .i64 m.c, .int .i64 m.s, .int .i64 m.r, .int .i64 m.t], .int .i64 i, v] w fun e w' => e = .returned (.bool (ftB m i l)) ∧ Below w.heap.size w w' := by
  have HR := Lib.hid (show ftB m i l = false by unfold ftB; rw [hd, Bool.and_false, Bool.and_false])
  have HK := Lib.hid hd
  have HC9 := Lib.hid (mfB_parts hm).2.1
  clear hd hm
  have HD := Lib.hid h
  obtain ⟨va, vc, rfl, hl, -⟩ := h
  unfold maxLen at hl
  replace hl := Lib.hid hl
  have H0 := Lib.hid (Below.refl w.heap.size w)
  have H1 := Lib.hid (Cs.newB H0.out (w.heap.size) #[.int .i64 m.v, .int .i64 m.c, .int .i64 m.s, .int .i64 m.r, .int .i64 m.t] 24 (by simp))
  have H2 := Lib.hid (keep2 (al _ (.cells #[.int .i64 m.v, .int .i64 m.c, .int .i64 m.s, .int .i64 m.r, .int .i64 m.t] 24)) H0.out)
  clear H0
  go_enter Try.func54, Try.ntmps54
  have xm0 := H1.out.c 0 rfl
  have xm1 := H1.out.c 1 rfl
  have xm2 := H1.out.c 2 rfl
  have xm3 := H1.out.c 3 rfl
  have xm4 := H1.out.c 4 rfl
  have zm := H1.out.2.2
  go_wp2_with fail
  refine (rdata_any _ l _ (HD.out.step H2.out)).mono ?_
  rintro e wq3 ⟨rfl, rfl⟩
  rw [HK.out]
  go_wp2
  go_ret
  exact ⟨ret_bool HR.out.symm, H2.out⟩
set_option maxRecDepth 100000 in
set_option maxHeartbeats 8000000 in
theorem rfits_s (m : Mf) (i : Int) (v : Value) (l : List Int) (w : World) (h : IntsAt w v l) (hm : mfB m = true) (hi : inB 0 (m.c - 1) i = true) (hd : daB l = true) (hs : (l.length : Int) = m.s) : Calls Try.prog 54 #[.agg #[.int .i64 m.v, .int .i64 m.c, .int .i64 m.s, .int .i64 m.r, .int .i64 m.t], .int .i64 i, v] w fun e w' => e = .returned (.bool (ftB m i l)) ∧ Below w.heap.size w w' := by
  have HR := Lib.hid (show ftB m i l = true by unfold ftB; rw [hi, hd, hs]; have := mfB_parts hm; split <;> rw [inB_iff.2 ⟨by omega, by omega⟩] <;> rfl)
  have HK := Lib.hid hd
  have HC9 := Lib.hid (mfB_parts hm).2.1
  have HS := Lib.hid hs
  clear hs
  clear hd hm hi
  have HD := Lib.hid h
  obtain ⟨va, vc, rfl, hl, -⟩ := h
  unfold maxLen at hl
  replace hl := Lib.hid hl
  have H0 := Lib.hid (Below.refl w.heap.size w)
  have H1 := Lib.hid (Cs.newB H0.out (w.heap.size) #[.int .i64 m.v, .int .i64 m.c, .int .i64 m.s, .int .i64 m.r, .int .i64 m.t] 24 (by simp))
  have H2 := Lib.hid (keep2 (al _ (.cells #[.int .i64 m.v, .int .i64 m.c, .int .i64 m.s, .int .i64 m.r, .int .i64 m.t] 24)) H0.out)
  clear H0
  go_enter Try.func54, Try.ntmps54
  have xm0 := H1.out.c 0 rfl
  have xm1 := H1.out.c 1 rfl
  have xm2 := H1.out.c 2 rfl
  have xm3 := H1.out.c 3 rfl
  have xm4 := H1.out.c 4 rfl
  have zm := H1.out.2.2
  go_wp2_with fail
  refine (rdata_any _ l _ (HD.out.step H2.out)).mono ?_
  rintro e wq3 ⟨rfl, rfl⟩
  rw [HK.out]
  have t1 : ((l.length : Int) == m.s) = true := by simpa using HS.out
  have t2 : ((l.length : Int) = m.s) = True := by simpa using HS.out
  go_wp2
  go_ret
  exact ⟨ret_bool HR.out.symm, H2.out⟩
set_option maxRecDepth 100000 in
set_option maxHeartbeats 8000000 in
theorem rfits_i (m : Mf) (i : Int) (v : Value) (l : List Int) (w : World) (h : IntsAt w v l) (hm : mfB m = true) (_ : inB 0 (m.c - 1) i = true) (hd : daB l = true) (hs : ¬ (l.length : Int) = m.s) (hx : ¬ i = m.c - 1) : Calls Try.prog 54 #[.agg #[.int .i64 m.v, .int .i64 m.c, .int .i64 m.s, .int .i64 m.r, .int .i64 m.t], .int .i64 i, v] w fun e w' => e = .returned (.bool (ftB m i l)) ∧ Below w.heap.size w w' := by
  have HR := Lib.hid (show ftB m i l = false by unfold ftB; rw [if_neg hx, inB_pt hs]; simp)
  have HK := Lib.hid hd
  have HC9 := Lib.hid (mfB_parts hm).2.1
  have HS := Lib.hid hs
  clear hs
  have HI := Lib.hid hx
  clear hx
  clear hd hm
  have HD := Lib.hid h
  obtain ⟨va, vc, rfl, hl, -⟩ := h
  unfold maxLen at hl
  replace hl := Lib.hid hl
  have H0 := Lib.hid (Below.refl w.heap.size w)
  have H1 := Lib.hid (Cs.newB H0.out (w.heap.size) #[.int .i64 m.v, .int .i64 m.c, .int .i64 m.s, .int .i64 m.r, .int .i64 m.t] 24 (by simp))
  have H2 := Lib.hid (keep2 (al _ (.cells #[.int .i64 m.v, .int .i64 m.c, .int .i64 m.s, .int .i64 m.r, .int .i64 m.t] 24)) H0.out)
  clear H0
  go_enter Try.func54, Try.ntmps54
  have xm0 := H1.out.c 0 rfl
  have xm1 := H1.out.c 1 rfl
  have xm2 := H1.out.c 2 rfl
  have xm3 := H1.out.c 3 rfl
  have xm4 := H1.out.c 4 rfl
  have zm := H1.out.2.2
  go_wp2_with fail
  refine (rdata_any _ l _ (HD.out.step H2.out)).mono ?_
  rintro e wq3 ⟨rfl, rfl⟩
  rw [HK.out]
  have t1 : ((l.length : Int) == m.s) = false := by simpa using HS.out
  have t2 : ((l.length : Int) = m.s) = False := by simpa using HS.out
  have t3 : wrap64 (m.c - 1) = m.c - 1 := IntWalk.wrap64_in _ (by have := HC9.out; omega)
  have t4 : (i == m.c - 1) = false := by simpa using HI.out
  have t5 : (i = m.c - 1) = False := by simpa using HI.out
  go_wp2
  go_ret
  exact ⟨ret_bool HR.out.symm, H2.out⟩
set_option maxRecDepth 100000 in
set_option maxHeartbeats 8000000 in
theorem rfits_b (m : Mf) (i : Int) (v : Value) (l : List Int) (w : World) (h : IntsAt w v l) (hm : mfB m = true) (hi : inB 0 (m.c - 1) i = true) (hd : daB l = true) (hs : ¬ (l.length : Int) = m.s) (hx : i = m.c - 1) : Calls Try.prog 54 #[.agg #[.int .i64 m.v, .int .i64 m.c, .int .i64 m.s, .int .i64 m.r, .int .i64 m.t], .int .i64 i, v] w fun e w' => e = .returned (.bool (ftB m i l)) ∧ Below w.heap.size w w' := by
  have HR := Lib.hid (show ftB m i l = inB 1 m.s (l.length : Int) by unfold ftB; rw [hi, hd, if_pos hx, Bool.and_true, Bool.true_and])
  have HK := Lib.hid hd
  have HC9 := Lib.hid (mfB_parts hm).2.1
  have HS := Lib.hid hs
  clear hs
  have HI := Lib.hid hx
  clear hx
  clear hd hm hi
  have HD := Lib.hid h
  obtain ⟨va, vc, rfl, hl, -⟩ := h
  unfold maxLen at hl
  replace hl := Lib.hid hl
  have H0 := Lib.hid (Below.refl w.heap.size w)
  have H1 := Lib.hid (Cs.newB H0.out (w.heap.size) #[.int .i64 m.v, .int .i64 m.c, .int .i64 m.s, .int .i64 m.r, .int .i64 m.t] 24 (by simp))
  have H2 := Lib.hid (keep2 (al _ (.cells #[.int .i64 m.v, .int .i64 m.c, .int .i64 m.s, .int .i64 m.r, .int .i64 m.t] 24)) H0.out)
  clear H0
  go_enter Try.func54, Try.ntmps54
  have xm0 := H1.out.c 0 rfl
  have xm1 := H1.out.c 1 rfl
  have xm2 := H1.out.c 2 rfl
  have xm3 := H1.out.c 3 rfl
  have xm4 := H1.out.c 4 rfl
  have zm := H1.out.2.2
  go_wp2_with fail
  refine (rdata_any _ l _ (HD.out.step H2.out)).mono ?_
  rintro e wq3 ⟨rfl, rfl⟩
  rw [HK.out]
  have t1 : ((l.length : Int) == m.s) = false := by simpa using HS.out
  have t2 : ((l.length : Int) = m.s) = False := by simpa using HS.out
  have t3 : wrap64 (m.c - 1) = m.c - 1 := IntWalk.wrap64_in _ (by have := HC9.out; omega)
  have t4 : (i == m.c - 1) = true := by simpa using HI.out
  have t5 : (i = m.c - 1) = True := by simpa using HI.out
  go_wp2_with fail
  refine (rbtw_any (l.length : Int) 1 m.s _).mono ?_
  rintro e wq4 ⟨rfl, rfl⟩
  clear t1 t2 t3 t4 t5
  go_wp2
  go_ret
  exact ⟨ret_bool HR.out.symm, H2.out⟩
theorem rfits_any (m : Mf) (i : Int) (v : Value) (l : List Int) (w : World) (h : IntsAt w v l) (hm : mfB m = true) (hi : inB 0 (m.c - 1) i = true) : Calls Try.prog 54 #[.agg #[.int .i64 m.v, .int .i64 m.c, .int .i64 m.s, .int .i64 m.r, .int .i64 m.t], .int .i64 i, v] w fun e w' => e = .returned (.bool (ftB m i l)) ∧ Below w.heap.size w w' := by
  cases hd : daB l
  · exact rfits_d m i v l w h hm hi hd
  · by_cases hs : (l.length : Int) = m.s
    · exact rfits_s m i v l w h hm hi hd hs
    · by_cases hx : i = m.c - 1
      · exact rfits_b m i v l w h hm hi hd hs hx
      · exact rfits_i m i v l w h hm hi hd hs hx
set_option maxRecDepth 100000 in
set_option maxHeartbeats 8000000 in
theorem rslot_m (m : Mf) (v : Value) (L : List (List Int)) (w : World) (h : RowsAt w v L) (h9 : L.length ≤ 1000) (h8 : ∀ x ∈ L, x.length ≤ 1000) (hm : mfB m = false) : Calls Try.prog 29 #[.agg #[.int .i64 m.v, .int .i64 m.c, .int .i64 m.s, .int .i64 m.r, .int .i64 m.t, v]] w fun e w' => e = .returned (.bool (slB m L)) ∧ Below w.heap.size w w' := by
  have HR := Lib.hid (show slB m L = false by unfold slB; rw [hm]; simp)
  have HM := Lib.hid hm
  clear hm
  have HL := Lib.hid h
  have H8 := Lib.hid h8
  have H9 := Lib.hid h9
  obtain ⟨va, vc, rfl, -, -⟩ := h
  clear h8 h9
  have H0 := Lib.hid (Below.refl w.heap.size w)
  have H1 := Lib.hid (Cs.newB H0.out (w.heap.size) #[.int .i64 m.v, .int .i64 m.c, .int .i64 m.s, .int .i64 m.r, .int .i64 m.t, .slice va L.length vc] 27 (by simp))
  have H2 := Lib.hid (keep2 (al _ (.cells #[.int .i64 m.v, .int .i64 m.c, .int .i64 m.s, .int .i64 m.r, .int .i64 m.t, .slice va L.length vc] 27)) H0.out)
  clear H0
  go_enter Try.func29, Try.ntmps29
  have xs0 := H1.out.c 0 rfl
  have xs1 := H1.out.c 1 rfl
  have xs2 := H1.out.c 2 rfl
  have xs3 := H1.out.c 3 rfl
  have xs4 := H1.out.c 4 rfl
  have xs5 := H1.out.c 5 rfl
  have zs := H1.out.2.2
  go_wp2_with fail
  refine (rmanif_any m _).mono ?_
  rintro e u1 ⟨rfl, b1⟩
  clear xs0 xs1 xs2 xs3 xs4 xs5 zs
  have H3 := Lib.hid (H1.out.step b1)
  clear H1
  have H4 := Lib.hid (keep2 b1 H2.out)
  clear H2
  clear b1
  rw [HM.out]
  have xs0 := H3.out.c 0 rfl
  have xs1 := H3.out.c 1 rfl
  have xs2 := H3.out.c 2 rfl
  have xs3 := H3.out.c 3 rfl
  have xs4 := H3.out.c 4 rfl
  have xs5 := H3.out.c 5 rfl
  have zs := H3.out.2.2
  go_wp2
  go_ret
  exact ⟨ret_bool HR.out.symm, H4.out⟩
set_option maxRecDepth 100000 in
set_option maxHeartbeats 8000000 in
theorem rslot_l (m : Mf) (v : Value) (L : List (List Int)) (w : World) (h : RowsAt w v L) (h9 : L.length ≤ 1000) (h8 : ∀ x ∈ L, x.length ≤ 1000) (hm : mfB m = true) (hc : ¬ (L.length : Int) = m.c) : Calls Try.prog 29 #[.agg #[.int .i64 m.v, .int .i64 m.c, .int .i64 m.s, .int .i64 m.r, .int .i64 m.t, v]] w fun e w' => e = .returned (.bool (slB m L)) ∧ Below w.heap.size w w' := by
  have HR := Lib.hid (show slB m L = false by unfold slB; rw [decide_eq_false hc]; simp)
  have HM := Lib.hid hm
  clear hm
  have HL := Lib.hid h
  have H8 := Lib.hid h8
  have H9 := Lib.hid h9
  obtain ⟨va, vc, rfl, -, -⟩ := h
  clear h8 h9
  have H0 := Lib.hid (Below.refl w.heap.size w)
  have H1 := Lib.hid (Cs.newB H0.out (w.heap.size) #[.int .i64 m.v, .int .i64 m.c, .int .i64 m.s, .int .i64 m.r, .int .i64 m.t, .slice va L.length vc] 27 (by simp))
  have H2 := Lib.hid (keep2 (al _ (.cells #[.int .i64 m.v, .int .i64 m.c, .int .i64 m.s, .int .i64 m.r, .int .i64 m.t, .slice va L.length vc] 27)) H0.out)
  clear H0
  go_enter Try.func29, Try.ntmps29
  have xs0 := H1.out.c 0 rfl
  have xs1 := H1.out.c 1 rfl
  have xs2 := H1.out.c 2 rfl
  have xs3 := H1.out.c 3 rfl
  have xs4 := H1.out.c 4 rfl
  have xs5 := H1.out.c 5 rfl
  have zs := H1.out.2.2
  go_wp2_with fail
  refine (rmanif_any m _).mono ?_
  rintro e u1 ⟨rfl, b1⟩
  clear xs0 xs1 xs2 xs3 xs4 xs5 zs
  have H3 := Lib.hid (H1.out.step b1)
  clear H1
  have H4 := Lib.hid (keep2 b1 H2.out)
  clear H2
  clear b1
  rw [HM.out]
  have xs0 := H3.out.c 0 rfl
  have xs1 := H3.out.c 1 rfl
  have xs2 := H3.out.c 2 rfl
  have xs3 := H3.out.c 3 rfl
  have xs4 := H3.out.c 4 rfl
  have xs5 := H3.out.c 5 rfl
  have zs := H3.out.2.2
  have t1 : ((L.length : Int) != m.c) = true := by simpa using hc
  have t2 : ((L.length : Int) == m.c) = false := by simpa using hc
  go_wp2
  go_ret
  exact ⟨ret_bool HR.out.symm, H4.out⟩
set_option maxRecDepth 100000 in
set_option maxHeartbeats 8000000 in
theorem rslot_go (m : Mf) (v : Value) (L : List (List Int)) (w : World) (h : RowsAt w v L) (h9 : L.length ≤ 1000) (h8 : ∀ x ∈ L, x.length ≤ 1000) (hm : mfB m = true) (hc : (L.length : Int) = m.c) : Calls Try.prog 29 #[.agg #[.int .i64 m.v, .int .i64 m.c, .int .i64 m.s, .int .i64 m.r, .int .i64 m.t, v]] w fun e w' => e = .returned (.bool (slB m L)) ∧ Below w.heap.size w w' := by
  have HM := Lib.hid hm
  have HC := Lib.hid hc
  clear hm hc
  have HL := Lib.hid h
  have H8 := Lib.hid h8
  have H9 := Lib.hid h9
  obtain ⟨va, vc, rfl, -, -⟩ := h
  clear h8 h9
  have H0 := Lib.hid (Below.refl w.heap.size w)
  have H1 := Lib.hid (Cs.newB H0.out (w.heap.size) #[.int .i64 m.v, .int .i64 m.c, .int .i64 m.s, .int .i64 m.r, .int .i64 m.t, .slice va L.length vc] 27 (by simp))
  have H2 := Lib.hid (keep2 (al _ (.cells #[.int .i64 m.v, .int .i64 m.c, .int .i64 m.s, .int .i64 m.r, .int .i64 m.t, .slice va L.length vc] 27)) H0.out)
  clear H0
  go_enter Try.func29, Try.ntmps29
  have xs0 := H1.out.c 0 rfl
  have xs1 := H1.out.c 1 rfl
  have xs2 := H1.out.c 2 rfl
  have xs3 := H1.out.c 3 rfl
  have xs4 := H1.out.c 4 rfl
  have xs5 := H1.out.c 5 rfl
  have zs := H1.out.2.2
  go_wp2_with fail
  refine (rmanif_any m _).mono ?_
  rintro e u1 ⟨rfl, b1⟩
  clear xs0 xs1 xs2 xs3 xs4 xs5 zs
  have H3 := Lib.hid (H1.out.step b1)
  clear H1
  have H4 := Lib.hid (keep2 b1 H2.out)
  clear H2
  clear b1
  rw [HM.out]
  have xs0 := H3.out.c 0 rfl
  have xs1 := H3.out.c 1 rfl
  have xs2 := H3.out.c 2 rfl
  have xs3 := H3.out.c 3 rfl
  have xs4 := H3.out.c 4 rfl
  have xs5 := H3.out.c 5 rfl
  have zs := H3.out.2.2
  have t1 : ((L.length : Int) != m.c) = false := by simpa using HC.out
  have t2 : ((L.length : Int) == m.c) = true := by simpa using HC.out
  go_wp2_with fail
  clear xs0 xs1 xs2 xs3 xs4 xs5 zs
  clear t1 t2
  go_loopw [3] (fun iv wr => ∃ k : Nat, k ≤ L.length ∧ iv = .int .i64 (k : Int) ∧ Hid (∀ j, j < k → slP m L j = true) ∧ Hid (Below u1.heap.size u1 wr)) (fun iv _ => L.length - (intOf iv).toNat)
  case atStart => exact ⟨0, by omega, rfl, Lib.hid (fun j h => absurd h (by omega)), Lib.hid (Below.refl _ _)⟩
  case round =>
    obtain ⟨k, hk, rfl, HN, HW⟩ := hrel
    have HS := Lib.hid (H3.out.step HW.out)
    have HB := Lib.hid (keep2 HW.out H4.out)
    by_cases hlt : k < L.length
    rotate_left
    · obtain rfl : k = L.length := by omega
      have HA := Lib.hid (show slB m L = true by unfold slB; rw [HM.out, decide_eq_true HC.out, sl_all HN.out]; rfl)
      have t3 : ¬ (L.length : Int) < (L.length : Int) := by omega
      have xs0 := HS.out.c 0 rfl
      have xs1 := HS.out.c 1 rfl
      have xs2 := HS.out.c 2 rfl
      have xs3 := HS.out.c 3 rfl
      have xs4 := HS.out.c 4 rfl
      have xs5 := HS.out.c 5 rfl
      have zs := HS.out.2.2
      go_wp2
      go_ret
      exact ⟨ret_bool HA.out.symm, HB.out⟩
    have HIL := Lib.hid hlt
    have HHT := Lib.hid (sl_hit (m := m) hlt)
    have h8 := Lib.hid (H8.out _ (getD_memL hlt))
    have HN2 := Lib.hid (show slP m L k = true → ∀ j, j < k + 1 → slP m L j = true from fun hx j h => by
      by_cases e : j = k
      · subst e; exact hx
      · exact HN.out j (by omega))
    have HP := Lib.hid (show slP m L k = ((L.getD k []).isEmpty || ftB m k (L.getD k [])) from rfl)
    have HIN := Lib.hid (show inB 0 (m.c - 1) (k : Int) = true from inB_iff.2 ⟨by omega, by have := HC.out; omega⟩)
    obtain ⟨bb, off, rfl, ya, yc, x0, xz, hy⟩ := rows_at (HL.out.step HB.out) hlt
    have HY := Lib.hid hy
    clear hy
    have t3 : (k : Int) < (L.length : Int) := by omega
    obtain ⟨x, hx⟩ : ∃ z9, L.getD k [] = z9 := ⟨_, rfl⟩
    rw [hx] at x0 HY h8 HP
    clear hx hk hlt
    cases x with
    | nil =>
      have HP1 := Lib.hid (HN2.out (by rw [HP.out]; rfl))
      simp only [List.length_nil] at x0
      have xs0 := HS.out.c 0 rfl
      have xs1 := HS.out.c 1 rfl
      have xs2 := HS.out.c 2 rfl
      have xs3 := HS.out.c 3 rfl
      have xs4 := HS.out.c 4 rfl
      have xs5 := HS.out.c 5 rfl
      have zs := HS.out.2.2
      go_upto_region 6 with fail
      go_cut [42] from 24 to 42 (fun p wq => p = .bool false ∧ Below wr.heap.size wr wq)
      case first =>
        go_quiet (fail)
        go_wp2
        go_meet
        exact ⟨rfl, below_drewN' _ _ _⟩
      case rest =>
        obtain ⟨rfl, hbq⟩ := hcut
        have HW2 := Lib.hid (keep2 hbq HW.out)
        clear x0 xz hbq xs0 xs1 xs2 xs3 xs4 xs5 zs
        have g2 : L.length ≤ 1000 := H9.out
        go_wp2
        go_roundw
        case rel => exact ⟨k + 1, HIL.out, by go_num, HP1, HW2⟩
        case measure => have := HIL.out; simp [intOf]; omega
    | cons y x =>
      obtain ⟨z, hz⟩ : ∃ z9, y :: x = z9 := ⟨_, rfl⟩
      have HP2 := Lib.hid (show slP m L k = ftB m k z by rw [HP.out, hz, ← hz]; rfl)
      have HZN := Lib.hid (show 0 < z.length by rw [← hz]; simp)
      rw [hz] at x0 HY h8
      clear hz HP
      have HX0 := Lib.hid x0
      have HXZ := Lib.hid xz
      clear x0 xz
      have xs0 := HS.out.c 0 rfl
      have xs1 := HS.out.c 1 rfl
      have xs2 := HS.out.c 2 rfl
      have xs3 := HS.out.c 3 rfl
      have xs4 := HS.out.c 4 rfl
      have xs5 := HS.out.c 5 rfl
      have zs := HS.out.2.2
      go_upto_region 6 with fail
      clear xs0 xs1 xs2 xs3 xs4 xs5 zs
      clear t3
      obtain ⟨lit, hlit⟩ : ∃ lit : (Nat → Value) → Act, lit = fun vs => { tmps := List.toArray (Value.agg #[Value.int IntKind.i64 m.v, Value.int IntKind.i64 m.c, Value.int IntKind.i64 m.s, Value.int IntKind.i64 m.r, Value.int IntKind.i64 m.t, Value.slice (some { block := bb, off := off }) L.length vc] :: Value.pointer (some { block := w.heap.size, off := 0 }) :: u2 :: Value.int IntKind.i64 (k : Int) :: Value.pointer (some { block := w.heap.size, off := 0 }) :: Value.agg #[Value.int IntKind.i64 m.v, Value.int IntKind.i64 m.c, Value.int IntKind.i64 m.s, Value.int IntKind.i64 m.r, Value.int IntKind.i64 m.t] :: Value.bool true :: Value.bool false :: Value.bool false :: Value.pointer (some { block := w.heap.size, off := 5 }) :: Value.slice (some { block := bb, off := off }) L.length vc :: Value.int IntKind.i64 (L.length : Int) :: Value.pointer (some { block := w.heap.size, off := 0 }) :: Value.pointer (some { block := w.heap.size, off := 1 }) :: Value.int IntKind.i64 m.c :: Value.bool false :: Value.bool false :: Value.int IntKind.i64 (k : Int) :: Value.pointer (some { block := w.heap.size, off := 5 }) :: Value.slice (some { block := bb, off := off }) L.length vc :: Value.int IntKind.i64 (L.length : Int) :: Value.bool true :: u22 :: u23 :: vs 0 :: vs 1 :: vs 2 :: vs 3 :: vs 4 :: vs 5 :: vs 6 :: vs 7 :: vs 8 :: vs 9 :: vs 10 :: vs 11 :: vs 12 :: vs 13 :: vs 14 :: vs 15 :: vs 16 :: vs 17 :: vs 18 :: []), defers := [] } := ⟨_, rfl⟩
      have HLIT := Lib.hid hlit
      clear hlit
      obtain ⟨val, hval⟩ : ∃ val : List Value, val = [.pointer (some ⟨(w.heap.size), 5, none⟩), .slice (some ⟨bb, off, none⟩) L.length vc, .int .i64 (k : Int), .pointer (some ⟨bb, off + k, none⟩), .slice ya z.length yc, .int .i64 (z.length : Int), .bool true, .bool true, .pointer (some ⟨(w.heap.size), 0, none⟩), .agg #[.int .i64 m.v, .int .i64 m.c, .int .i64 m.s, .int .i64 m.r, .int .i64 m.t], .int .i64 (k : Int), .pointer (some ⟨(w.heap.size), 5, none⟩), .slice (some ⟨bb, off, none⟩) L.length vc, .int .i64 (k : Int), .pointer (some ⟨bb, off + k, none⟩), .slice ya z.length yc, .bool (ftB m k z), .bool (!ftB m k z), .bool (!ftB m k z)] := ⟨_, rfl⟩
      have E0 := Lib.hid (show val.getD 0 undef = .pointer (some ⟨(w.heap.size), 5, none⟩) by rw [hval]; rfl)
      have E1 := Lib.hid (show val.getD 1 undef = .slice (some ⟨bb, off, none⟩) L.length vc by rw [hval]; rfl)
      have E2 := Lib.hid (show val.getD 2 undef = .int .i64 (k : Int) by rw [hval]; rfl)
      have E3 := Lib.hid (show val.getD 3 undef = .pointer (some ⟨bb, off + k, none⟩) by rw [hval]; rfl)
      have E4 := Lib.hid (show val.getD 4 undef = .slice ya z.length yc by rw [hval]; rfl)
      have E5 := Lib.hid (show val.getD 5 undef = .int .i64 (z.length : Int) by rw [hval]; rfl)
      have E6 := Lib.hid (show val.getD 6 undef = .bool true by rw [hval]; rfl)
      have E7 := Lib.hid (show val.getD 7 undef = .bool true by rw [hval]; rfl)
      have E8 := Lib.hid (show val.getD 8 undef = .pointer (some ⟨(w.heap.size), 0, none⟩) by rw [hval]; rfl)
      have E9 := Lib.hid (show val.getD 9 undef = .agg #[.int .i64 m.v, .int .i64 m.c, .int .i64 m.s, .int .i64 m.r, .int .i64 m.t] by rw [hval]; rfl)
      have E10 := Lib.hid (show val.getD 10 undef = .int .i64 (k : Int) by rw [hval]; rfl)
      have E11 := Lib.hid (show val.getD 11 undef = .pointer (some ⟨(w.heap.size), 5, none⟩) by rw [hval]; rfl)
      have E12 := Lib.hid (show val.getD 12 undef = .slice (some ⟨bb, off, none⟩) L.length vc by rw [hval]; rfl)
      have E13 := Lib.hid (show val.getD 13 undef = .int .i64 (k : Int) by rw [hval]; rfl)
      have E14 := Lib.hid (show val.getD 14 undef = .pointer (some ⟨bb, off + k, none⟩) by rw [hval]; rfl)
      have E15 := Lib.hid (show val.getD 15 undef = .slice ya z.length yc by rw [hval]; rfl)
      have E16 := Lib.hid (show val.getD 16 undef = .bool (ftB m k z) by rw [hval]; rfl)
      have E17 := Lib.hid (show val.getD 17 undef = .bool (!ftB m k z) by rw [hval]; rfl)
      have E18 := Lib.hid (show val.getD 18 undef = .bool (!ftB m k z) by rw [hval]; rfl)
      clear hval
      obtain ⟨G, hG0⟩ : ∃ G : Nat → Value → World → Prop, G = (fun i v w => (v = val.getD i undef)) := ⟨_, rfl⟩
      have HG := Lib.hid hG0
      clear hG0
      refine region_inv (RS lit wr G) (by kernel_rfl) (by decide +kernel) ?_ ?_ ?_
      · exact ⟨fun i => ([u24, u25, u26, u27, u28, u29, u30, u31, u32, u33, u34, u35, u36, u37, u38, u39, u40, u41, u42] : List Value).getD i undef, (by rw [HLIT.out]; rfl), below_drew _ _, fun i h => by cases h⟩
      · refine ⟨?_, ?_, ?_, ?_, ?_, ?_, ?_, ?_, ?_, ?_, ?_, ?_, ?_, ?_, ?_, ?_, ?_, ?_, ?_, trivial⟩
        · intro bf ac wv hfb haf hJ K' hK
          obtain ⟨vs, rfl, hM, j4⟩ := hJ
          replace hK := Lib.hid hK
          replace hM := Lib.hid hM
          rw [HG.out] at j4
          replace j4 := Lib.hid j4
          clear haf hfb
          rw [HLIT.out]
          go_simp
          exact hK.out _ _ (RS.next (wv := wv) (vs := vs) 0 (x := .pointer (some ⟨(w.heap.size), 5, none⟩)) (by rw [HLIT.out]; rfl) (by rw [HG.out]; exact j4.out) hM.out (by rw [HG.out]; exact fun _ _ h => h) (by rw [HG.out]; exact E0.out.symm))
        · intro bf ac wv hfb haf hJ K' hK
          obtain ⟨vs, rfl, hM, j4⟩ := hJ
          replace hK := Lib.hid hK
          replace hM := Lib.hid hM
          rw [HG.out] at j4
          simp [Region.binds] at haf
          have e0 := ((j4 0 (by simp [haf]))).trans E0.out
          replace j4 := Lib.hid j4
          clear haf hfb
          have x5 := (HS.out.step hM.out).c 5 rfl
          have xz := (HS.out.step hM.out).2.2
          rw [HLIT.out]
          go_simp
          exact hK.out _ _ (RS.next (wv := wv) (vs := vs) 1 (x := .slice (some ⟨bb, off, none⟩) L.length vc) (by rw [HLIT.out]; simp only [upv, e0, Nat.reduceBEq, cond_true, cond_false]) (by rw [HG.out]; exact j4.out) hM.out (by rw [HG.out]; exact fun _ _ h => h) (by rw [HG.out]; exact E1.out.symm))
        · intro bf ac wv hfb haf hJ K' hK
          obtain ⟨vs, rfl, hM, j4⟩ := hJ
          replace hK := Lib.hid hK
          replace hM := Lib.hid hM
          rw [HG.out] at j4
          replace j4 := Lib.hid j4
          clear haf hfb
          rw [HLIT.out]
          go_simp
          exact hK.out _ _ (RS.next (wv := wv) (vs := vs) 2 (x := .int .i64 (k : Int)) (by rw [HLIT.out]; rfl) (by rw [HG.out]; exact j4.out) hM.out (by rw [HG.out]; exact fun _ _ h => h) (by rw [HG.out]; exact E2.out.symm))
        · intro bf ac wv hfb haf hJ K' hK
          obtain ⟨vs, rfl, hM, j4⟩ := hJ
          replace hK := Lib.hid hK
          replace hM := Lib.hid hM
          rw [HG.out] at j4
          simp [Region.binds] at haf
          have e1 := ((j4 1 (by simp [haf]))).trans E1.out
          have e2 := ((j4 2 (by simp [haf]))).trans E2.out
          replace j4 := Lib.hid j4
          clear haf hfb
          have t3 : (k : Int) < (L.length : Int) := by have := HIL.out; omega
          have t3b : (k : Int).toNat = k := Int.toNat_natCast k
          rw [HLIT.out]
          go_simp
          exact hK.out _ _ (RS.next (wv := wv) (vs := vs) 3 (x := .pointer (some ⟨bb, off + k, none⟩)) (by rw [HLIT.out]; simp only [upv, e1, e2, Nat.reduceBEq, cond_true, cond_false]) (by rw [HG.out]; exact j4.out) hM.out (by rw [HG.out]; exact fun _ _ h => h) (by rw [HG.out]; exact E3.out.symm))
        · intro bf ac wv hfb haf hJ K' hK
          obtain ⟨vs, rfl, hM, j4⟩ := hJ
          replace hK := Lib.hid hK
          replace hM := Lib.hid hM
          rw [HG.out] at j4
          simp [Region.binds] at haf
          have e3 := ((j4 3 (by simp [haf]))).trans E3.out
          replace j4 := Lib.hid j4
          clear haf hfb
          have r0 := keep1 hM.out HX0.out
          have rz := Nat.lt_of_lt_of_le HXZ.out hM.out.size
          rw [HLIT.out]
          go_simp
          exact hK.out _ _ (RS.next (wv := wv) (vs := vs) 4 (x := .slice ya z.length yc) (by rw [HLIT.out]; simp only [upv, e3, Nat.reduceBEq, cond_true, cond_false]) (by rw [HG.out]; exact j4.out) hM.out (by rw [HG.out]; exact fun _ _ h => h) (by rw [HG.out]; exact E4.out.symm))
        · intro bf ac wv hfb haf hJ K' hK
          obtain ⟨vs, rfl, hM, j4⟩ := hJ
          replace hK := Lib.hid hK
          replace hM := Lib.hid hM
          rw [HG.out] at j4
          simp [Region.binds] at haf
          have e4 := ((j4 4 (by simp [haf]))).trans E4.out
          replace j4 := Lib.hid j4
          clear haf hfb
          rw [HLIT.out]
          go_simp
          exact hK.out _ _ (RS.next (wv := wv) (vs := vs) 5 (x := .int .i64 (z.length : Int)) (by rw [HLIT.out]; simp only [upv, e4, Nat.reduceBEq, cond_true, cond_false]) (by rw [HG.out]; exact j4.out) hM.out (by rw [HG.out]; exact fun _ _ h => h) (by rw [HG.out]; exact E5.out.symm))
        · intro bf ac wv hfb haf hJ K' hK
          obtain ⟨vs, rfl, hM, j4⟩ := hJ
          replace hK := Lib.hid hK
          replace hM := Lib.hid hM
          rw [HG.out] at j4
          simp [Region.binds] at haf
          have e5 := ((j4 5 (by simp [haf]))).trans E5.out
          replace j4 := Lib.hid j4
          clear haf hfb
          have t4 : decide ((z.length : Int) > 0) = true := decide_eq_true (by have := HZN.out; omega)
          have t5 : decide ((0 : Int) < (z.length : Int)) = true := t4
          have t6 := HZN.out
          have t7 : decide (0 < z.length) = true := decide_eq_true t6
          rw [HLIT.out]
          go_simp
          exact hK.out _ _ (RS.next (wv := wv) (vs := vs) 6 (x := .bool true) (by rw [HLIT.out]; simp only [upv, e5, Nat.reduceBEq, cond_true, cond_false]) (by rw [HG.out]; exact j4.out) hM.out (by rw [HG.out]; exact fun _ _ h => h) (by rw [HG.out]; exact E6.out.symm))
        · intro bf ac wv hfb haf hJ K' hK
          obtain ⟨vs, rfl, hM, j4⟩ := hJ
          replace hK := Lib.hid hK
          replace hM := Lib.hid hM
          rw [HG.out] at j4
          simp [Region.binds] at haf
          have e6 := ((j4 6 (by simp [haf]))).trans E6.out
          replace j4 := Lib.hid j4
          clear haf hfb
          rw [HLIT.out]
          go_simp
          exact hK.out _ _ (RS.next (wv := wv) (vs := vs) 7 (x := .bool true) (by rw [HLIT.out]; simp only [upv, e6, Nat.reduceBEq, cond_true, cond_false]) (by rw [HG.out]; exact j4.out) hM.out (by rw [HG.out]; exact fun _ _ h => h) (by rw [HG.out]; exact E7.out.symm))
        · intro bf ac wv hfb haf hJ K' hK
          obtain ⟨vs, rfl, hM, j4⟩ := hJ
          replace hK := Lib.hid hK
          replace hM := Lib.hid hM
          rw [HG.out] at j4
          simp [Region.binds] at haf
          have e7 := ((j4 7 (by simp [haf]))).trans E7.out
          replace j4 := Lib.hid j4
          clear haf hfb
          rw [HLIT.out]
          go_simp
          exact hK.out _ _ (RS.next (wv := wv) (vs := vs) 8 (x := .pointer (some ⟨(w.heap.size), 0, none⟩)) (by rw [HLIT.out]; simp only [upv, e7, Nat.reduceBEq, cond_true, cond_false]) (by rw [HG.out]; exact j4.out) hM.out (by rw [HG.out]; exact fun _ _ h => h) (by rw [HG.out]; exact E8.out.symm))
        · intro bf ac wv hfb haf hJ K' hK
          obtain ⟨vs, rfl, hM, j4⟩ := hJ
          replace hK := Lib.hid hK
          replace hM := Lib.hid hM
          rw [HG.out] at j4
          simp [Region.binds] at haf
          have e7 := ((j4 7 (by simp [haf]))).trans E7.out
          have e8 := ((j4 8 (by simp [haf]))).trans E8.out
          replace j4 := Lib.hid j4
          clear haf hfb
          have x0 := (HS.out.step hM.out).c 0 rfl
          have x1 := (HS.out.step hM.out).c 1 rfl
          have x2 := (HS.out.step hM.out).c 2 rfl
          have x3 := (HS.out.step hM.out).c 3 rfl
          have x4 := (HS.out.step hM.out).c 4 rfl
          have xz := (HS.out.step hM.out).2.2
          rw [HLIT.out]
          go_simp
          exact hK.out _ _ (RS.next (wv := wv) (vs := vs) 9 (x := .agg #[.int .i64 m.v, .int .i64 m.c, .int .i64 m.s, .int .i64 m.r, .int .i64 m.t]) (by rw [HLIT.out]; simp only [upv, e7, e8, Nat.reduceBEq, cond_true, cond_false]) (by rw [HG.out]; exact j4.out) hM.out (by rw [HG.out]; exact fun _ _ h => h) (by rw [HG.out]; exact E9.out.symm))
        · intro bf ac wv hfb haf hJ K' hK
          obtain ⟨vs, rfl, hM, j4⟩ := hJ
          replace hK := Lib.hid hK
          replace hM := Lib.hid hM
          rw [HG.out] at j4
          simp [Region.binds] at haf
          have e7 := ((j4 7 (by simp [haf]))).trans E7.out
          replace j4 := Lib.hid j4
          clear haf hfb
          rw [HLIT.out]
          go_simp
          exact hK.out _ _ (RS.next (wv := wv) (vs := vs) 10 (x := .int .i64 (k : Int)) (by rw [HLIT.out]; simp only [upv, e7, Nat.reduceBEq, cond_true, cond_false]) (by rw [HG.out]; exact j4.out) hM.out (by rw [HG.out]; exact fun _ _ h => h) (by rw [HG.out]; exact E10.out.symm))
        · intro bf ac wv hfb haf hJ K' hK
          obtain ⟨vs, rfl, hM, j4⟩ := hJ
          replace hK := Lib.hid hK
          replace hM := Lib.hid hM
          rw [HG.out] at j4
          simp [Region.binds] at haf
          have e7 := ((j4 7 (by simp [haf]))).trans E7.out
          replace j4 := Lib.hid j4
          clear haf hfb
          rw [HLIT.out]
          go_simp
          exact hK.out _ _ (RS.next (wv := wv) (vs := vs) 11 (x := .pointer (some ⟨(w.heap.size), 5, none⟩)) (by rw [HLIT.out]; simp only [upv, e7, Nat.reduceBEq, cond_true, cond_false]) (by rw [HG.out]; exact j4.out) hM.out (by rw [HG.out]; exact fun _ _ h => h) (by rw [HG.out]; exact E11.out.symm))
        · intro bf ac wv hfb haf hJ K' hK
          obtain ⟨vs, rfl, hM, j4⟩ := hJ
          replace hK := Lib.hid hK
          replace hM := Lib.hid hM
          rw [HG.out] at j4
          simp [Region.binds] at haf
          have e7 := ((j4 7 (by simp [haf]))).trans E7.out
          have e11 := ((j4 11 (by simp [haf]))).trans E11.out
          replace j4 := Lib.hid j4
          clear haf hfb
          have x5 := (HS.out.step hM.out).c 5 rfl
          have xz := (HS.out.step hM.out).2.2
          rw [HLIT.out]
          go_simp
          exact hK.out _ _ (RS.next (wv := wv) (vs := vs) 12 (x := .slice (some ⟨bb, off, none⟩) L.length vc) (by rw [HLIT.out]; simp only [upv, e7, e11, Nat.reduceBEq, cond_true, cond_false]) (by rw [HG.out]; exact j4.out) hM.out (by rw [HG.out]; exact fun _ _ h => h) (by rw [HG.out]; exact E12.out.symm))
        · intro bf ac wv hfb haf hJ K' hK
          obtain ⟨vs, rfl, hM, j4⟩ := hJ
          replace hK := Lib.hid hK
          replace hM := Lib.hid hM
          rw [HG.out] at j4
          simp [Region.binds] at haf
          have e7 := ((j4 7 (by simp [haf]))).trans E7.out
          replace j4 := Lib.hid j4
          clear haf hfb
          rw [HLIT.out]
          go_simp
          exact hK.out _ _ (RS.next (wv := wv) (vs := vs) 13 (x := .int .i64 (k : Int)) (by rw [HLIT.out]; simp only [upv, e7, Nat.reduceBEq, cond_true, cond_false]) (by rw [HG.out]; exact j4.out) hM.out (by rw [HG.out]; exact fun _ _ h => h) (by rw [HG.out]; exact E13.out.symm))
        · intro bf ac wv hfb haf hJ K' hK
          obtain ⟨vs, rfl, hM, j4⟩ := hJ
          replace hK := Lib.hid hK
          replace hM := Lib.hid hM
          rw [HG.out] at j4
          simp [Region.binds] at haf
          have e7 := ((j4 7 (by simp [haf]))).trans E7.out
          have e12 := ((j4 12 (by simp [haf]))).trans E12.out
          have e13 := ((j4 13 (by simp [haf]))).trans E13.out
          replace j4 := Lib.hid j4
          clear haf hfb
          have t3 : (k : Int) < (L.length : Int) := by have := HIL.out; omega
          have t3b : (k : Int).toNat = k := Int.toNat_natCast k
          rw [HLIT.out]
          go_simp
          exact hK.out _ _ (RS.next (wv := wv) (vs := vs) 14 (x := .pointer (some ⟨bb, off + k, none⟩)) (by rw [HLIT.out]; simp only [upv, e7, e12, e13, Nat.reduceBEq, cond_true, cond_false]) (by rw [HG.out]; exact j4.out) hM.out (by rw [HG.out]; exact fun _ _ h => h) (by rw [HG.out]; exact E14.out.symm))
        · intro bf ac wv hfb haf hJ K' hK
          obtain ⟨vs, rfl, hM, j4⟩ := hJ
          replace hK := Lib.hid hK
          replace hM := Lib.hid hM
          rw [HG.out] at j4
          simp [Region.binds] at haf
          have e7 := ((j4 7 (by simp [haf]))).trans E7.out
          have e14 := ((j4 14 (by simp [haf]))).trans E14.out
          replace j4 := Lib.hid j4
          clear haf hfb
          have r0 := keep1 hM.out HX0.out
          have rz := Nat.lt_of_lt_of_le HXZ.out hM.out.size
          rw [HLIT.out]
          go_simp
          exact hK.out _ _ (RS.next (wv := wv) (vs := vs) 15 (x := .slice ya z.length yc) (by rw [HLIT.out]; simp only [upv, e7, e14, Nat.reduceBEq, cond_true, cond_false]) (by rw [HG.out]; exact j4.out) hM.out (by rw [HG.out]; exact fun _ _ h => h) (by rw [HG.out]; exact E15.out.symm))
        · intro bf ac wv hfb haf hJ K' hK
          obtain ⟨vs, rfl, hM, j4⟩ := hJ
          replace hK := Lib.hid hK
          replace hM := Lib.hid hM
          rw [HG.out] at j4
          simp [Region.binds] at haf
          have e7 := ((j4 7 (by simp [haf]))).trans E7.out
          have e9 := ((j4 9 (by simp [haf]))).trans E9.out
          have e10 := ((j4 10 (by simp [haf]))).trans E10.out
          have e15 := ((j4 15 (by simp [haf]))).trans E15.out
          replace j4 := Lib.hid j4
          clear haf hfb
          rw [HLIT.out]
          go_simp
          go_at_call 54
          refine (rfits_any m k _ z wv (HY.out.step hM.out) HM.out HIN.out).mono ?_
          rintro e w4 ⟨rfl, b4⟩
          exact hK.out _ _ (RS.next (wv := wv) (vs := vs) 16 (x := .bool (ftB m k z)) (by rw [HLIT.out]; simp only [upv, e7, e9, e10, e15, Nat.reduceBEq, cond_true, cond_false]) (by rw [HG.out]; exact j4.out) (keep2 b4 hM.out) (by rw [HG.out]; exact fun _ _ h => h) (by rw [HG.out]; exact E16.out.symm))
        · intro bf ac wv hfb haf hJ K' hK
          obtain ⟨vs, rfl, hM, j4⟩ := hJ
          replace hK := Lib.hid hK
          replace hM := Lib.hid hM
          rw [HG.out] at j4
          simp [Region.binds] at haf
          have e7 := ((j4 7 (by simp [haf]))).trans E7.out
          have e16 := ((j4 16 (by simp [haf]))).trans E16.out
          replace j4 := Lib.hid j4
          clear haf hfb
          rw [HLIT.out]
          go_simp
          exact hK.out _ _ (RS.next (wv := wv) (vs := vs) 17 (x := .bool (!ftB m k z)) (by rw [HLIT.out]; simp only [upv, e7, e16, Nat.reduceBEq, cond_true, cond_false]) (by rw [HG.out]; exact j4.out) hM.out (by rw [HG.out]; exact fun _ _ h => h) (by rw [HG.out]; exact E17.out.symm))
        · intro bf ac wv hfb haf hJ K' hK
          obtain ⟨vs, rfl, hM, j4⟩ := hJ
          replace hK := Lib.hid hK
          replace hM := Lib.hid hM
          rw [HG.out] at j4
          simp [Region.binds] at haf
          have e7 := ((j4 7 (by simp [haf]))).trans E7.out
          have e17 := ((j4 17 (by simp [haf]))).trans E17.out
          replace j4 := Lib.hid j4
          clear haf hfb
          rw [HLIT.out]
          go_simp
          exact hK.out _ _ (RS.next (wv := wv) (vs := vs) 18 (x := .bool (!ftB m k z)) (by rw [HLIT.out]; simp only [upv, e7, e17, Nat.reduceBEq, cond_true, cond_false]) (by rw [HG.out]; exact j4.out) hM.out (by rw [HG.out]; exact fun _ _ h => h) (by rw [HG.out]; exact E18.out.symm))
      · intro bf ac wv hall hJ
        obtain ⟨vs, rfl, hM, j4⟩ := hJ
        rw [HG.out] at j4
        have e18 := ((j4 18 (hall 18 (by decide)))).trans E18.out
        have HW2 := Lib.hid (keep2 hM HW.out)
        have HB2 := Lib.hid (keep2 hM HB.out)
        clear hM j4 hall
        rw [HLIT.out]
        dsimp only
        rw [e18]
        clear e18 HLIT HG
        generalize vs = us8
        cases hf : ftB m k z
        · have HA := Lib.hid (show slB m L = false by unfold slB; rw [HM.out, decide_eq_true HC.out, HHT.out (by rw [HP2.out]; exact hf)]; rfl)
          go_wp2
          go_ret
          exact ⟨ret_bool HA.out.symm, HB2.out⟩
        · have HP3 := Lib.hid (HN2.out (by rw [HP2.out]; exact hf))
          have g2 : L.length ≤ 1000 := H9.out
          have t3 : (k : Int) < (L.length : Int) := by have := HIL.out; omega
          go_wp2
          go_roundw
          case rel => exact ⟨k + 1, HIL.out, by go_num, HP3, HW2⟩
          case measure => have := HIL.out; simp [intOf]; omega
theorem rslot_any (m : Mf) (v : Value) (L : List (List Int)) (w : World) (h : RowsAt w v L) (h9 : L.length ≤ 1000) (h8 : ∀ x ∈ L, x.length ≤ 1000) : Calls Try.prog 29 #[.agg #[.int .i64 m.v, .int .i64 m.c, .int .i64 m.s, .int .i64 m.r, .int .i64 m.t, v]] w fun e w' => e = .returned (.bool (slB m L)) ∧ Below w.heap.size w w' := by
  cases hm : mfB m
  · exact rslot_m m v L w h h9 h8 hm
  · by_cases hc : (L.length : Int) = m.c
    · exact rslot_go m v L w h h9 h8 hm hc
    · exact rslot_l m v L w h h9 h8 hm hc
end Go.Proofs.Yteodafhgfcbdpaa
