/- Frames, the reference: keys, well-formed frames. -/
import Derived.Test.YtebeaekiaikgmaaFa
namespace Go.Proofs.Ytebeaekiaikgmaa
open Go.RowKit

set_option maxRecDepth 100000 in
set_option maxHeartbeats 8000000 in
theorem rbtw_q (n lo hi : Int) (b : Bool) (hb : (decide (lo ≤ n) && decide (n ≤ hi)) = b) (w : World) : Calls Try.prog 45 #[.int .i64 n, .int .i64 lo, .int .i64 hi] w fun e w' => e = .returned (.bool b) ∧ w = w' := by
  subst hb
  by_cases h1 : lo ≤ n
  · have e1 : decide (n ≥ lo) = true := by simp; omega
    have e1b : decide (lo ≤ n) = true := by simp; omega
    by_cases h2 : n ≤ hi
    · have e2 : decide (n ≤ hi) = true := by simp; omega
      clear h1 h2
      go_enter Try.func45, Try.ntmps45
      go_wp2
      go_ret
      exact ⟨by rw [e1b, e2]; rfl, rfl⟩
    · have e2 : decide (n ≤ hi) = false := by simp; omega
      clear h1 h2
      go_enter Try.func45, Try.ntmps45
      go_wp2
      go_ret
      exact ⟨by rw [e1b, e2]; rfl, rfl⟩
  · have e1 : decide (n ≥ lo) = false := by simp; omega
    have e1b : decide (lo ≤ n) = false := by simp; omega
    clear h1
    go_enter Try.func45, Try.ntmps45
    go_wp2
    go_ret
    exact ⟨by rw [e1b]; rfl, rfl⟩
theorem rkey_any (n : Int) (b : Bool) (hb : tgB n = b) (w : World) : Calls Try.prog 37 #[.int .i64 n] w fun e w' => e = .returned (.bool b) ∧ w = w' := by
  go_enter Try.func37, Try.ntmps37
  go_wp2_with fail
  refine (rbtw_q n 0 2147483646 b hb _).mono ?_
  rintro e w' ⟨rfl, rfl⟩
  go_wp2
  go_ret
  exact ⟨rfl, rfl⟩
theorem fdB_is (x : Int) : fdB x = (decide (0 ≤ x) && decide (x ≤ 1000000)) := by
  unfold fdB
  by_cases h1 : 0 ≤ x
  · by_cases h2 : x ≤ 1000000
    · simp [h1, h2]
    · simp [h1, h2] <;> omega
  · simp [h1] <;> omega
theorem bdB_is (x : Int) : (decide (-1000000000 ≤ x) && decide (x ≤ 1000000000)) = !bdB x := by
  unfold bdB
  by_cases h1 : -1000000000 ≤ x
  · by_cases h2 : x ≤ 1000000000
    · simp [h1, h2]
    · simp [h1, h2] <;> omega
  · simp [h1] <;> omega
theorem any_yes {l : List Int} {k : Nat} (h : k < l.length) (hb : bdB (l.getD k 0) = true) : l.any bdB = true := by
  rw [List.any_eq_true]
  exact ⟨l[k], List.getElem_mem h, by rwa [show l.getD k 0 = l[k] by simp [h]] at hb⟩
theorem any_not {l : List Int} (h : ∀ j, j < l.length → bdB (l.getD j 0) = false) : l.any bdB = false := by
  rw [List.any_eq_false]
  intro x hx
  obtain ⟨j, hj, rfl⟩ := List.mem_iff_getElem.1 hx
  have := h j hj
  rw [show l.getD j 0 = l[j] by simp [hj]] at this
  rw [this]; simp
set_option maxRecDepth 100000 in
set_option maxHeartbeats 8000000 in
theorem rvalid_any (a b c d : Int) (sl : Value) (l : List Int) (t : Int) (w : World) (h : IntsAt w sl l) (r : Bool) (hr : vaB a b c d l t = r) : Calls Try.prog 18 #[.agg #[.int .i64 a, .int .i64 b, .int .i64 c, .int .i64 d, sl, .int .i64 t]] w fun e w' => e = .returned (.bool r) ∧ Below w.heap.size w w' := by
  have HL0 := Lib.hid h
  obtain ⟨sa, sc, rfl, hm, -⟩ := h
  unfold maxLen at hm
  have HC0 := Lib.hid (Cs.new w w.heap.size #[.int .i64 a, .int .i64 b, .int .i64 c, .int .i64 d, .slice sa l.length sc, .int .i64 t] 24 rfl)
  have HB0 := Lib.hid (al w (.cells #[.int .i64 a, .int .i64 b, .int .i64 c, .int .i64 d, .slice sa l.length sc, .int .i64 t] 24))
  have HLB := Lib.hid (HL0.out.step HB0.out)
  have HR := Lib.hid hr
  clear hr
  go_enter Try.func18, Try.ntmps18
  go_wp2_with fail
  obtain ⟨W, hW⟩ : ∃ z, w.alloc (.cells #[.int .i64 a, .int .i64 b, .int .i64 c, .int .i64 d, .slice sa l.length sc, .int .i64 t] 24) = z := ⟨_, rfl⟩
  rw [hW] at HC0 HB0 HLB ⊢
  clear hW
  have x0 := HC0.out.c 0 rfl
  have x1 := HC0.out.c 1 rfl
  have x2 := HC0.out.c 2 rfl
  have x3 := HC0.out.c 3 rfl
  have x4 := HC0.out.c 4 rfl
  have x5 := HC0.out.c 5 rfl
  have xz := HC0.out.2.2
  go_loopw [3] (fun iv wr => ∃ k : Nat, k ≤ l.length ∧ iv = .int .i64 k ∧ Hid (∀ j, j < k → bdB (l.getD j 0) = false) ∧ Hid (W = wr)) (fun iv _ => l.length - (intOf iv).toNat)
  case atStart => exact ⟨0, by omega, rfl, Lib.hid (fun j h => absurd h (by omega)), Lib.hid rfl⟩
  case round =>
    obtain ⟨k, hk, rfl, HN, HW⟩ := hrel
    obtain rfl := HW.out
    clear HW
    by_cases hlt : k < l.length
    · obtain ⟨a1, c1, hv1, -, hcs1⟩ := HLB.out
      obtain ⟨rfl, rfl⟩ : sa = a1 ∧ sc = c1 := by simpa using hv1
      obtain ⟨b1, o1, rfl, hx1⟩ := hcs1 (by intro e; rw [e] at hlt; simp at hlt)
      have y0 := hx1 k _ (getD_of hlt)
      have yz : b1 < W.heap.size := World.block_lt_of_cell? _ _ y0
      have t1 : (k : Int) < (l.length : Int) := by omega
      clear hcs1 hx1 hv1
      cases hb : bdB (l.getD k 0)
      · have HN2 := Lib.hid (show ∀ j, j < k + 1 → bdB (l.getD j 0) = false from fun j h => by
          by_cases e : j = k
          · subst e; exact hb
          · exact HN.out j (by omega))
        have HQ := Lib.hid (show (decide (-1000000000 ≤ l.getD k 0) && decide (l.getD k 0 ≤ 1000000000)) = true by rw [bdB_is, hb]; rfl)
        clear HN hb
        obtain ⟨x, hx⟩ : ∃ x, l.getD k 0 = x := ⟨_, rfl⟩
        rw [hx] at y0 HQ
        clear hx
        go_wp2_with fail
        refine (rbtw_q _ (-1000000000) 1000000000 true HQ.out _).mono ?_
        rintro e w' ⟨rfl, rfl⟩
        go_wp2
        go_roundw
        case rel => exact ⟨k + 1, hlt, by go_num, HN2, Lib.hid trivial⟩
        case measure => simp [intOf]; omega
      · have HQ := Lib.hid (show (decide (-1000000000 ≤ l.getD k 0) && decide (l.getD k 0 ≤ 1000000000)) = false by rw [bdB_is, hb]; rfl)
        have HF := Lib.hid (show r = false by rw [← HR.out]; unfold vaB; rw [any_yes hlt hb]; simp)
        clear HN hb HR
        obtain ⟨x, hx⟩ : ∃ x, l.getD k 0 = x := ⟨_, rfl⟩
        rw [hx] at y0 HQ
        clear hx
        go_wp2_with fail
        refine (rbtw_q _ (-1000000000) 1000000000 false HQ.out _).mono ?_
        rintro e w' ⟨rfl, rfl⟩
        go_wp2
        go_ret
        exact ⟨by rw [HF.out]; rfl, HB0.out⟩
    · obtain rfl : k = l.length := by omega
      have HAN := Lib.hid (any_not fun j hj => HN.out j hj)
      clear HN
      cases h0 : fdB a
      · have G0 := Lib.hid ((fdB_is a).symm.trans h0)
        have HE := Lib.hid (show r = false by rw [← HR.out]; unfold vaB; rw [h0]; simp)
        clear h0 HR
        go_wp2_with fail
        refine (rbtw_q _ 0 1000000 _ G0.out _).mono ?_
        rintro e w' ⟨rfl, rfl⟩
        go_wp2
        go_ret
        exact ⟨by rw [HE.out]; rfl, HB0.out⟩
      · have G0 := Lib.hid ((fdB_is a).symm.trans h0)
        cases h1 : fdB b
        · have G1 := Lib.hid ((fdB_is b).symm.trans h1)
          have HE := Lib.hid (show r = false by rw [← HR.out]; unfold vaB; rw [h1]; simp)
          clear h0 h1 HR
          go_wp2_with fail
          refine (rbtw_q _ 0 1000000 _ G0.out _).mono ?_
          rintro e w' ⟨rfl, rfl⟩
          go_wp2_with fail
          refine (rbtw_q _ 0 1000000 _ G1.out _).mono ?_
          rintro e w' ⟨rfl, rfl⟩
          go_wp2
          go_ret
          exact ⟨by rw [HE.out]; rfl, HB0.out⟩
        · have G1 := Lib.hid ((fdB_is b).symm.trans h1)
          cases h2 : fdB c
          · have G2 := Lib.hid ((fdB_is c).symm.trans h2)
            have HE := Lib.hid (show r = false by rw [← HR.out]; unfold vaB; rw [h2]; simp)
            clear h0 h1 h2 HR
            go_wp2_with fail
            refine (rbtw_q _ 0 1000000 _ G0.out _).mono ?_
            rintro e w' ⟨rfl, rfl⟩
            go_wp2_with fail
            refine (rbtw_q _ 0 1000000 _ G1.out _).mono ?_
            rintro e w' ⟨rfl, rfl⟩
            go_wp2_with fail
            refine (rbtw_q _ 0 1000000 _ G2.out _).mono ?_
            rintro e w' ⟨rfl, rfl⟩
            go_wp2
            go_ret
            exact ⟨by rw [HE.out]; rfl, HB0.out⟩
          · have G2 := Lib.hid ((fdB_is c).symm.trans h2)
            cases h3 : fdB d
            · have G3 := Lib.hid ((fdB_is d).symm.trans h3)
              have HE := Lib.hid (show r = false by rw [← HR.out]; unfold vaB; rw [h3]; simp)
              clear h0 h1 h2 h3 HR
              go_wp2_with fail
              refine (rbtw_q _ 0 1000000 _ G0.out _).mono ?_
              rintro e w' ⟨rfl, rfl⟩
              go_wp2_with fail
              refine (rbtw_q _ 0 1000000 _ G1.out _).mono ?_
              rintro e w' ⟨rfl, rfl⟩
              go_wp2_with fail
              refine (rbtw_q _ 0 1000000 _ G2.out _).mono ?_
              rintro e w' ⟨rfl, rfl⟩
              go_wp2_with fail
              refine (rbtw_q _ 0 1000000 _ G3.out _).mono ?_
              rintro e w' ⟨rfl, rfl⟩
              go_wp2
              go_ret
              exact ⟨by rw [HE.out]; rfl, HB0.out⟩
            · have G3 := Lib.hid ((fdB_is d).symm.trans h3)
              by_cases h4 : l.length ≤ 32
              · have g1 : decide ((l.length : Int) ≤ 32) = true := by simp; omega
                have g2 : decide (l.length ≤ 32) = true := by simpa using h4
                cases h5 : tgB t
                · have HE := Lib.hid (show r = false by rw [← HR.out]; unfold vaB; rw [h0, h1, h2, h3, h5, HAN.out, g2]; simp)
                  have G5 := Lib.hid h5
                  clear h0 h1 h2 h3 HR h4 h5 HAN
                  go_wp2_with fail
                  refine (rbtw_q _ 0 1000000 _ G0.out _).mono ?_
                  rintro e w' ⟨rfl, rfl⟩
                  go_wp2_with fail
                  refine (rbtw_q _ 0 1000000 _ G1.out _).mono ?_
                  rintro e w' ⟨rfl, rfl⟩
                  go_wp2_with fail
                  refine (rbtw_q _ 0 1000000 _ G2.out _).mono ?_
                  rintro e w' ⟨rfl, rfl⟩
                  go_wp2_with fail
                  refine (rbtw_q _ 0 1000000 _ G3.out _).mono ?_
                  rintro e w' ⟨rfl, rfl⟩
                  go_wp2_with fail
                  refine (rkey_any t _ G5.out _).mono ?_
                  rintro e w' ⟨rfl, rfl⟩
                  go_wp2
                  go_ret
                  exact ⟨by rw [HE.out]; rfl, HB0.out⟩
                · have HE := Lib.hid (show r = true by rw [← HR.out]; unfold vaB; rw [h0, h1, h2, h3, h5, HAN.out, g2]; simp)
                  have G5 := Lib.hid h5
                  clear h0 h1 h2 h3 HR h4 h5 HAN
                  go_wp2_with fail
                  refine (rbtw_q _ 0 1000000 _ G0.out _).mono ?_
                  rintro e w' ⟨rfl, rfl⟩
                  go_wp2_with fail
                  refine (rbtw_q _ 0 1000000 _ G1.out _).mono ?_
                  rintro e w' ⟨rfl, rfl⟩
                  go_wp2_with fail
                  refine (rbtw_q _ 0 1000000 _ G2.out _).mono ?_
                  rintro e w' ⟨rfl, rfl⟩
                  go_wp2_with fail
                  refine (rbtw_q _ 0 1000000 _ G3.out _).mono ?_
                  rintro e w' ⟨rfl, rfl⟩
                  go_wp2_with fail
                  refine (rkey_any t _ G5.out _).mono ?_
                  rintro e w' ⟨rfl, rfl⟩
                  go_wp2
                  go_ret
                  exact ⟨by rw [HE.out]; rfl, HB0.out⟩
              · have g1 : decide ((l.length : Int) ≤ 32) = false := by simp; omega
                have g2 : decide (l.length ≤ 32) = false := by simpa using h4
                have HE := Lib.hid (show r = false by rw [← HR.out]; unfold vaB; rw [g2]; simp)
                clear h0 h1 h2 h3 HR h4 HAN
                go_wp2_with fail
                refine (rbtw_q _ 0 1000000 _ G0.out _).mono ?_
                rintro e w' ⟨rfl, rfl⟩
                go_wp2_with fail
                refine (rbtw_q _ 0 1000000 _ G1.out _).mono ?_
                rintro e w' ⟨rfl, rfl⟩
                go_wp2_with fail
                refine (rbtw_q _ 0 1000000 _ G2.out _).mono ?_
                rintro e w' ⟨rfl, rfl⟩
                go_wp2_with fail
                refine (rbtw_q _ 0 1000000 _ G3.out _).mono ?_
                rintro e w' ⟨rfl, rfl⟩
                go_wp2
                go_ret
                exact ⟨by rw [HE.out]; rfl, HB0.out⟩
end Go.Proofs.Ytebeaekiaikgmaa
