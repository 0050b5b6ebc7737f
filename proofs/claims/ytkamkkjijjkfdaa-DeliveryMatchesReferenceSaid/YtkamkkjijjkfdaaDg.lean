/- Delivery, the reference: orders, values, receivers; compared. -/
import Derived.Test.YtkamkkjijjkfdaaDf
import Derived.Test.YtkamkkjijjkfdaaPi
namespace Go.Proofs.Ytkamkkjijjkfdaa
open Go.RowKit

set_option maxRecDepth 100000 in
set_option maxHeartbeats 8000000 in
theorem rbt_q (n lo hi : Int) (b : Bool) (hb : (decide (lo ≤ n) && decide (n ≤ hi)) = b) (w : World) : Calls Try.prog 46 #[.int .i64 n, .int .i64 lo, .int .i64 hi] w fun e w' => e = .returned (.bool b) ∧ w = w' := by
  subst hb
  by_cases h1 : lo ≤ n
  · have e1 : decide (n ≥ lo) = true := by simp; omega
    have e1b : decide (lo ≤ n) = true := by simp; omega
    by_cases h2 : n ≤ hi
    · have e2 : decide (n ≤ hi) = true := by simp; omega
      clear h1 h2
      go_enter Try.func46, Try.ntmps46
      go_wp2
      go_ret
      exact ⟨by rw [e1b, e2]; rfl, rfl⟩
    · have e2 : decide (n ≤ hi) = false := by simp; omega
      clear h1 h2
      go_enter Try.func46, Try.ntmps46
      go_wp2
      go_ret
      exact ⟨by rw [e1b, e2]; rfl, rfl⟩
  · have e1 : decide (n ≥ lo) = false := by simp; omega
    have e1b : decide (lo ≤ n) = false := by simp; omega
    clear h1
    go_enter Try.func46, Try.ntmps46
    go_wp2
    go_ret
    exact ⟨by rw [e1b]; rfl, rfl⟩
theorem take_eq_iff {l l' : List Int} (k : Nat) (hk : k < l.length) (hk' : k < l'.length) (h : l.take k = l'.take k) : l.take (k + 1) = l'.take (k + 1) ↔ l.getD k 0 = l'.getD k 0 := by
  rw [List.take_succ_eq_append_getElem hk, List.take_succ_eq_append_getElem hk', h, List.append_right_inj]
  simp [hk, hk']
set_option maxRecDepth 100000 in
set_option maxHeartbeats 2000000 in
theorem ints_any (v u : Value) (l l' : List Int) (w : World) (h : IntsAt w v l) (h' : IntsAt w u l') :
    Calls Try.prog 24 #[v, u] w fun e w' => e = .returned (.bool (decide (l = l'))) ∧ ∃ n, w' = w.drewN n := by
  obtain ⟨a, cap, rfl, hm, hc⟩ := h
  obtain ⟨a', cap', rfl, hm', hc'⟩ := h'
  unfold maxLen at hm hm'
  have HC := Lib.hid hc
  have HC' := Lib.hid hc'
  clear hc hc'
  by_cases hl : l.length = l'.length
  · have hl1 : ((l.length : Int) != (l'.length : Int)) = false := by simp [hl]
    go_enter Try.func24, Try.ntmps24
    go_wp2_with fail
    go_loopw [5] (fun i wr => ∃ k n : Nat, k ≤ l.length ∧ i = .int .i64 k ∧ Hid (l.take k = l'.take k) ∧ wr = w.drewN n) (fun i _ => l.length - (intOf i).toNat)
    case atStart => exact ⟨0, 0, by omega, rfl, Lib.hid (by simp), rfl⟩
    case round =>
      obtain ⟨k, n, hk, rfl, hT, rfl⟩ := hrel
      by_cases hlt : k < l.length
      · obtain ⟨b, off, rfl, hcs⟩ := HC.out (by intro h; rw [h] at hlt; simp at hlt)
        obtain ⟨b', off', rfl, hcs'⟩ := HC'.out (by intro h; rw [h] at hl; simp at hl; rw [hl] at hlt; simp at hlt)
        have hx := hcs k _ (getD_of hlt)
        have hlt' : k < l'.length := by omega
        have hx' := hcs' k _ (getD_of hlt')
        have HE := Lib.hid (take_eq_iff k hlt hlt' hT.out)
        clear hcs hcs'
        obtain ⟨wq, hwq⟩ : ∃ wq, w.drewN n = wq := ⟨_, rfl⟩
        have hx2 : wq.cell? ⟨b, off + k, none⟩ = some (.int .i64 (l.getD k 0)) := by rw [← hwq]; exact hx
        have hx3 : wq.cell? ⟨b', off' + k, none⟩ = some (.int .i64 (l'.getD k 0)) := by rw [← hwq]; exact hx'
        have hNE := Lib.hid (show l.getD k 0 ≠ l'.getD k 0 → ¬ l = l' from fun hne e => hne (by rw [e]))
        rw [hwq]
        have HW := Lib.hid hwq
        clear hwq hx hx'
        generalize l.getD k 0 = x at *
        generalize l'.getD k 0 = y at *
        by_cases hxy : x = y
        · have e1 : (x != y) = false := by simp [hxy]
          have hT2 := Lib.hid (HE.out.2 hxy)
          subst hxy
          clear HE hNE
          go_wp2_with fail
          go_quiet (fail)
          go_wp2
          go_roundw
          case rel => exact ⟨k + 1, _, by omega, by go_num, hT2, by rw [← HW.out]; exact World.drewN_drewN _ _ _⟩
          case measure => simp [intOf]; omega
        · have e1 : (x != y) = true := by simp [hxy]
          have e2 : (x == y) = false := by simp [hxy]
          have hF := Lib.hid (hNE.out hxy)
          clear HE hNE
          go_wp2_with fail
          go_quiet (fail)
          go_wp2
          go_ret
          exact ⟨ret_bool (by rw [decide_eq_false hF.out]), _, by rw [← HW.out]; exact World.drewN_drewN _ _ _⟩
      · have hF := Lib.hid (show l = l' by have := hT.out; rwa [List.take_of_length_le (by omega), List.take_of_length_le (by omega)] at this)
        have hlt2 : l'.length ≤ k := by omega
        go_wp2
        go_ret
        exact ⟨ret_bool (by rw [decide_eq_true hF.out]), _, rfl⟩
  · have hl1 : ((l.length : Int) != (l'.length : Int)) = true := by simp; omega
    have hl2 : ((l.length : Int) == (l'.length : Int)) = false := by simp; omega
    have hF := Lib.hid (show ¬ l = l' from fun e => hl (by rw [e]))
    go_enter Try.func24, Try.ntmps24
    go_wp2
    go_ret
    exact ⟨ret_bool (by rw [decide_eq_false hF.out]), 0, rfl⟩
theorem rbt_i (n lo hi : Int) (b : Bool) (hb : inr n lo hi = b) (w : World) : Calls Try.prog 46 #[.int .i64 n, .int .i64 lo, .int .i64 hi] w fun e w' => e = .returned (.bool b) ∧ w = w' := rbt_q n lo hi b hb w
set_option maxRecDepth 100000 in
set_option maxHeartbeats 8000000 in
theorem rorder_any (a b c d : Int) (r : Bool) (hr : orB a b c d = r) (w : World) : Calls Try.prog 26 #[.agg #[.int .i64 a, .int .i64 b, .int .i64 c, .int .i64 d]] w fun e w' => e = .returned (.bool r) ∧ Below w.heap.size w w' := by
  have HC0 := Lib.hid (Cs.new w w.heap.size #[.int .i64 a, .int .i64 b, .int .i64 c, .int .i64 d] 32 rfl)
  have HB0 := Lib.hid (al w (.cells #[.int .i64 a, .int .i64 b, .int .i64 c, .int .i64 d] 32))
  have c0 := HC0.out.c 0 rfl
  have c1 := HC0.out.c 1 rfl
  have c2 := HC0.out.c 2 rfl
  have c3 := HC0.out.c 3 rfl
  have cz := HC0.out.2.2
  cases h0 : inr a 0 1000000
  · have G0 := Lib.hid h0
    have HE := Lib.hid (show r = false by rw [← hr]; unfold orB; rw [h0]; simp)
    clear hr h0
    go_enter Try.func26, Try.ntmps26
    go_wp2_with fail
    refine (rbt_i a 0 1000000 _ G0.out _).mono ?_
    rintro e w' ⟨rfl, rfl⟩
    go_wp2
    go_ret
    exact ⟨by rw [HE.out]; rfl, HB0.out⟩
  · have G0 := Lib.hid h0
    cases h1 : inr b 0 1000000000
    · have G1 := Lib.hid h1
      have HE := Lib.hid (show r = false by rw [← hr]; unfold orB; rw [h0, h1]; simp)
      clear hr h0 h1
      go_enter Try.func26, Try.ntmps26
      go_wp2_with fail
      refine (rbt_i a 0 1000000 _ G0.out _).mono ?_
      rintro e w' ⟨rfl, rfl⟩
      go_wp2_with fail
      refine (rbt_i b 0 1000000000 _ G1.out _).mono ?_
      rintro e w' ⟨rfl, rfl⟩
      go_wp2
      go_ret
      exact ⟨by rw [HE.out]; rfl, HB0.out⟩
    · have G1 := Lib.hid h1
      cases h2 : inr c 0 1199
      · have G2 := Lib.hid h2
        have HE := Lib.hid (show r = false by rw [← hr]; unfold orB; rw [h0, h1, h2]; simp)
        clear hr h0 h1 h2
        go_enter Try.func26, Try.ntmps26
        go_wp2_with fail
        refine (rbt_i a 0 1000000 _ G0.out _).mono ?_
        rintro e w' ⟨rfl, rfl⟩
        go_wp2_with fail
        refine (rbt_i b 0 1000000000 _ G1.out _).mono ?_
        rintro e w' ⟨rfl, rfl⟩
        go_wp2_with fail
        refine (rbt_i c 0 1199 _ G2.out _).mono ?_
        rintro e w' ⟨rfl, rfl⟩
        go_wp2
        go_ret
        exact ⟨by rw [HE.out]; rfl, HB0.out⟩
      · have G2 := Lib.hid h2
        cases h3 : inr d 0 15
        · have G3 := Lib.hid h3
          have HE := Lib.hid (show r = false by rw [← hr]; unfold orB; rw [h0, h1, h2, h3]; simp)
          clear hr h0 h1 h2 h3
          go_enter Try.func26, Try.ntmps26
          go_wp2_with fail
          refine (rbt_i a 0 1000000 _ G0.out _).mono ?_
          rintro e w' ⟨rfl, rfl⟩
          go_wp2_with fail
          refine (rbt_i b 0 1000000000 _ G1.out _).mono ?_
          rintro e w' ⟨rfl, rfl⟩
          go_wp2_with fail
          refine (rbt_i c 0 1199 _ G2.out _).mono ?_
          rintro e w' ⟨rfl, rfl⟩
          go_wp2_with fail
          refine (rbt_i d 0 15 _ G3.out _).mono ?_
          rintro e w' ⟨rfl, rfl⟩
          go_wp2
          go_ret
          exact ⟨by rw [HE.out]; rfl, HB0.out⟩
        · have G3 := Lib.hid h3
          have HE := Lib.hid (show r = true by rw [← hr]; unfold orB; rw [h0, h1, h2, h3]; simp)
          clear hr h0 h1 h2 h3
          go_enter Try.func26, Try.ntmps26
          go_wp2_with fail
          refine (rbt_i a 0 1000000 _ G0.out _).mono ?_
          rintro e w' ⟨rfl, rfl⟩
          go_wp2_with fail
          refine (rbt_i b 0 1000000000 _ G1.out _).mono ?_
          rintro e w' ⟨rfl, rfl⟩
          go_wp2_with fail
          refine (rbt_i c 0 1199 _ G2.out _).mono ?_
          rintro e w' ⟨rfl, rfl⟩
          go_wp2_with fail
          refine (rbt_i d 0 15 _ G3.out _).mono ?_
          rintro e w' ⟨rfl, rfl⟩
          go_wp2
          go_ret
          exact ⟨by rw [HE.out]; rfl, HB0.out⟩
set_option maxRecDepth 100000 in
set_option maxHeartbeats 8000000 in
theorem rvalues_any (v : Value) (l : List Int) (r : Bool) (hr : vaB l = r) (w : World) (h : IntsAt w v l) : Calls Try.prog 42 #[v] w fun e w' => e = .returned (.bool r) ∧ w = w' := by
  have HL := Lib.hid h
  obtain ⟨sa, sc, rfl, hm, -⟩ := h
  unfold maxLen at hm
  have HR := Lib.hid hr
  clear hr
  go_enter Try.func42, Try.ntmps42
  go_wp2_with fail
  go_loopw [3] (fun iv wr => ∃ k : Nat, k ≤ l.length ∧ iv = .int .i64 k ∧ Hid (∀ j, j < k → ba (l.getD j 0) = false) ∧ Hid (w = wr)) (fun iv _ => l.length - (intOf iv).toNat)
  case atStart => exact ⟨0, by omega, rfl, Lib.hid (fun j h => absurd h (by omega)), Lib.hid rfl⟩
  case round =>
    obtain ⟨k, hk, rfl, HN, HW⟩ := hrel
    obtain rfl := HW.out
    clear HW
    by_cases hlt : k < l.length
    · obtain ⟨a1, c1, hv1, -, hcs1⟩ := HL.out
      obtain ⟨rfl, rfl⟩ : sa = a1 ∧ sc = c1 := by simpa using hv1
      obtain ⟨b1, o1, rfl, hx1⟩ := hcs1 (by intro e; rw [e] at hlt; simp at hlt)
      have y0 := hx1 k _ (getD_of hlt)
      have yz : b1 < w.heap.size := World.block_lt_of_cell? _ _ y0
      have t1 : (k : Int) < (l.length : Int) := by omega
      clear hcs1 hx1 hv1
      cases hb : ba (l.getD k 0)
      · have HN2 := Lib.hid (show ∀ j, j < k + 1 → ba (l.getD j 0) = false from fun j h => by
          by_cases e : j = k
          · subst e; exact hb
          · exact HN.out j (by omega))
        have HQ := Lib.hid (show inr (l.getD k 0) 0 15 = true by unfold ba at hb; simpa using hb)
        clear HN hb
        obtain ⟨x, hx⟩ : ∃ x, l.getD k 0 = x := ⟨_, rfl⟩
        rw [hx] at y0 HQ
        clear hx
        go_wp2_with fail
        refine (rbt_i _ 0 15 true HQ.out _).mono ?_
        rintro e w' ⟨rfl, rfl⟩
        go_wp2
        go_roundw
        case rel => exact ⟨k + 1, hlt, by go_num, HN2, Lib.hid trivial⟩
        case measure => simp [intOf]; omega
      · have HQ := Lib.hid (show inr (l.getD k 0) 0 15 = false by unfold ba at hb; simpa using hb)
        have HF := Lib.hid (show r = false by rw [← HR.out]; unfold vaB; rw [ba_hit hlt hb]; simp)
        clear HN hb HR
        obtain ⟨x, hx⟩ : ∃ x, l.getD k 0 = x := ⟨_, rfl⟩
        rw [hx] at y0 HQ
        clear hx
        go_wp2_with fail
        refine (rbt_i _ 0 15 false HQ.out _).mono ?_
        rintro e w' ⟨rfl, rfl⟩
        go_wp2
        go_ret
        exact ⟨by rw [HF.out]; rfl, rfl⟩
    · obtain rfl : k = l.length := by omega
      have HAN := Lib.hid (ba_none fun j hj => HN.out j hj)
      clear HN
      by_cases h4 : l.length ≤ 1200
      · have g1 : decide ((l.length : Int) ≤ 1200) = true := by simp; omega
        have HE := Lib.hid (show r = true by rw [← HR.out]; unfold vaB; rw [HAN.out]; simp [h4])
        clear HR h4
        go_wp2
        go_ret
        exact ⟨by rw [HE.out]; rfl, rfl⟩
      · have g1 : decide ((l.length : Int) ≤ 1200) = false := by simp; omega
        have HE := Lib.hid (show r = false by rw [← HR.out]; unfold vaB; simp [h4])
        clear HR h4
        go_wp2
        go_ret
        exact ⟨by rw [HE.out]; rfl, rfl⟩
theorem rwin_at (t : Int) (a : Option Addr) (n c : Nat) (q : List Bool) (w : World) (h : BosAt w (.slice a n c) q) (hn : n = 16) (hc : n ≤ c) (hw : WF t q) : Calls Try.prog 45 #[.agg #[.int .i64 t, .slice a n c]] w fun e w' => e = .returned (.bool true) ∧ Below w.heap.size w w' := by
  subst hn
  exact rwin_yes t a c q w h hw
set_option maxRecDepth 100000 in
set_option maxHeartbeats 8000000 in
theorem rrecv_nowin (t f dn : Int) (sa va : Option Addr) (sc vc : Nat) (L : List Bool) (l : List Int) (w : World) (hs : BosAt w (.slice sa L.length sc) L) (hc : L.length ≤ sc) (hv : IntsAt w (.slice va l.length vc) l) (hw : ¬ WF t L) : Calls Try.prog 25 #[.agg #[.int .i64 t, .slice sa L.length sc, .int .i64 f, .slice va l.length vc, .int .i64 dn]] w fun e w' => e = .returned (.bool false) ∧ Below w.heap.size w w' := by
  have HC0 := Lib.hid (Cs.new w w.heap.size #[.int .i64 t, .slice sa L.length sc, .int .i64 f, .slice va l.length vc, .int .i64 dn] 30 rfl)
  have HB0 := Lib.hid (al w (.cells #[.int .i64 t, .slice sa L.length sc, .int .i64 f, .slice va l.length vc, .int .i64 dn] 30))
  have c0 := HC0.out.c 0 rfl
  have c1 := HC0.out.c 1 rfl
  have c2 := HC0.out.c 2 rfl
  have c3 := HC0.out.c 3 rfl
  have c4 := HC0.out.c 4 rfl
  have cz := HC0.out.2.2
  have HS0 := Lib.hid (hs.step HB0.out)
  have HV0 := Lib.hid (hv.step HB0.out)
  have HCP := Lib.hid hc
  clear hs hv hc
  have HW := Lib.hid hw
  clear hw
  go_enter Try.func25, Try.ntmps25
  go_wp2_with fail
  refine (rwin_no t sa L.length sc L _ HS0.out rfl HW.out).mono ?_
  rintro e w1 ⟨rfl, b1⟩
  have HB1 := Lib.hid (keep2 b1 HB0.out)
  clear b1
  go_wp2
  go_ret
  exact ⟨rfl, HB1.out⟩
set_option maxRecDepth 100000 in
set_option maxHeartbeats 8000000 in
theorem rrecv_win (t f dn : Int) (sa va : Option Addr) (sc vc : Nat) (L : List Bool) (l : List Int) (w : World) (hs : BosAt w (.slice sa L.length sc) L) (hc : L.length ≤ sc) (hv : IntsAt w (.slice va l.length vc) l) (hw : WF t L) (r : Bool) (hr : rvB f l dn = r) : Calls Try.prog 25 #[.agg #[.int .i64 t, .slice sa L.length sc, .int .i64 f, .slice va l.length vc, .int .i64 dn]] w fun e w' => e = .returned (.bool r) ∧ Below w.heap.size w w' := by
  have HC0 := Lib.hid (Cs.new w w.heap.size #[.int .i64 t, .slice sa L.length sc, .int .i64 f, .slice va l.length vc, .int .i64 dn] 30 rfl)
  have HB0 := Lib.hid (al w (.cells #[.int .i64 t, .slice sa L.length sc, .int .i64 f, .slice va l.length vc, .int .i64 dn] 30))
  have c0 := HC0.out.c 0 rfl
  have c1 := HC0.out.c 1 rfl
  have c2 := HC0.out.c 2 rfl
  have c3 := HC0.out.c 3 rfl
  have c4 := HC0.out.c 4 rfl
  have cz := HC0.out.2.2
  have HS0 := Lib.hid (hs.step HB0.out)
  have HV0 := Lib.hid (hv.step HB0.out)
  have HCP := Lib.hid hc
  clear hs hv hc
  have HW := Lib.hid hw
  have E16 := Lib.hid hw.1
  clear hw
  cases h0 : inr f 0 1000000000
  · have G0 := Lib.hid h0
    have HE := Lib.hid (show r = false by rw [← hr]; unfold rvB; rw [h0]; simp)
    clear hr h0
    go_enter Try.func25, Try.ntmps25
    go_wp2_with fail
    refine (rwin_at t sa L.length sc L _ HS0.out E16.out HCP.out HW.out).mono ?_
    rintro e w1 ⟨rfl, b1⟩
    have HB1 := Lib.hid (keep2 b1 HB0.out)
    have HV1 := Lib.hid (HV0.out.step b1)
    have HC1 := Lib.hid (HC0.out.step b1)
    clear b1 c0 c1 c2 c3 c4 cz
    have c0 := HC1.out.c 0 rfl
    have c1 := HC1.out.c 1 rfl
    have c2 := HC1.out.c 2 rfl
    have c3 := HC1.out.c 3 rfl
    have c4 := HC1.out.c 4 rfl
    have cz := HC1.out.2.2
    go_wp2_with fail
    refine (rbt_i f 0 1000000000 _ G0.out _).mono ?_
    rintro e w' ⟨rfl, rfl⟩
    go_wp2
    go_ret
    exact ⟨by rw [HE.out]; rfl, HB1.out⟩
  · have G0 := Lib.hid h0
    cases h1 : vaB l
    · have G1 := Lib.hid h1
      have HE := Lib.hid (show r = false by rw [← hr]; unfold rvB; rw [h0, h1]; simp)
      clear hr h0 h1
      go_enter Try.func25, Try.ntmps25
      go_wp2_with fail
      refine (rwin_at t sa L.length sc L _ HS0.out E16.out HCP.out HW.out).mono ?_
      rintro e w1 ⟨rfl, b1⟩
      have HB1 := Lib.hid (keep2 b1 HB0.out)
      have HV1 := Lib.hid (HV0.out.step b1)
      have HC1 := Lib.hid (HC0.out.step b1)
      clear b1 c0 c1 c2 c3 c4 cz
      have c0 := HC1.out.c 0 rfl
      have c1 := HC1.out.c 1 rfl
      have c2 := HC1.out.c 2 rfl
      have c3 := HC1.out.c 3 rfl
      have c4 := HC1.out.c 4 rfl
      have cz := HC1.out.2.2
      go_wp2_with fail
      refine (rbt_i f 0 1000000000 _ G0.out _).mono ?_
      rintro e w' ⟨rfl, rfl⟩
      go_wp2_with fail
      refine (rvalues_any _ l _ G1.out _ HV1.out).mono ?_
      rintro e w' ⟨rfl, rfl⟩
      go_wp2
      go_ret
      exact ⟨by rw [HE.out]; rfl, HB1.out⟩
    · have G1 := Lib.hid h1
      cases h2 : inr dn 0 1000001
      · have G2 := Lib.hid h2
        have HE := Lib.hid (show r = false by rw [← hr]; unfold rvB; rw [h0, h1, h2]; simp)
        clear hr h0 h1 h2
        go_enter Try.func25, Try.ntmps25
        go_wp2_with fail
        refine (rwin_at t sa L.length sc L _ HS0.out E16.out HCP.out HW.out).mono ?_
        rintro e w1 ⟨rfl, b1⟩
        have HB1 := Lib.hid (keep2 b1 HB0.out)
        have HV1 := Lib.hid (HV0.out.step b1)
        have HC1 := Lib.hid (HC0.out.step b1)
        clear b1 c0 c1 c2 c3 c4 cz
        have c0 := HC1.out.c 0 rfl
        have c1 := HC1.out.c 1 rfl
        have c2 := HC1.out.c 2 rfl
        have c3 := HC1.out.c 3 rfl
        have c4 := HC1.out.c 4 rfl
        have cz := HC1.out.2.2
        go_wp2_with fail
        refine (rbt_i f 0 1000000000 _ G0.out _).mono ?_
        rintro e w' ⟨rfl, rfl⟩
        go_wp2_with fail
        refine (rvalues_any _ l _ G1.out _ HV1.out).mono ?_
        rintro e w' ⟨rfl, rfl⟩
        go_wp2_with fail
        refine (rbt_i dn 0 1000001 _ G2.out _).mono ?_
        rintro e w' ⟨rfl, rfl⟩
        go_wp2
        go_ret
        exact ⟨by rw [HE.out]; rfl, HB1.out⟩
      · have G2 := Lib.hid h2
        have HE := Lib.hid (show r = true by rw [← hr]; unfold rvB; rw [h0, h1, h2]; simp)
        clear hr h0 h1 h2
        go_enter Try.func25, Try.ntmps25
        go_wp2_with fail
        refine (rwin_at t sa L.length sc L _ HS0.out E16.out HCP.out HW.out).mono ?_
        rintro e w1 ⟨rfl, b1⟩
        have HB1 := Lib.hid (keep2 b1 HB0.out)
        have HV1 := Lib.hid (HV0.out.step b1)
        have HC1 := Lib.hid (HC0.out.step b1)
        clear b1 c0 c1 c2 c3 c4 cz
        have c0 := HC1.out.c 0 rfl
        have c1 := HC1.out.c 1 rfl
        have c2 := HC1.out.c 2 rfl
        have c3 := HC1.out.c 3 rfl
        have c4 := HC1.out.c 4 rfl
        have cz := HC1.out.2.2
        go_wp2_with fail
        refine (rbt_i f 0 1000000000 _ G0.out _).mono ?_
        rintro e w' ⟨rfl, rfl⟩
        go_wp2_with fail
        refine (rvalues_any _ l _ G1.out _ HV1.out).mono ?_
        rintro e w' ⟨rfl, rfl⟩
        go_wp2_with fail
        refine (rbt_i dn 0 1000001 _ G2.out _).mono ?_
        rintro e w' ⟨rfl, rfl⟩
        go_wp2
        go_ret
        exact ⟨by rw [HE.out]; rfl, HB1.out⟩
set_option maxRecDepth 100000 in
set_option maxHeartbeats 8000000 in
theorem samer_any (T F D : Int) (A : List Bool) (V : List Int) (nl : Nat) (xa xv ya yv : Option Addr) (xc xd yc yd : Nat) (w : World) (h1 : BosAt w (.slice xa A.length xc) A) (h2 : IntsAt w (.slice xv nl xd) V) (h3 : BosAt w (.slice ya A.length yc) A) (h4 : IntsAt w (.slice yv nl yd) V) : Calls Try.prog 16 #[.agg #[.int .i64 T, .slice xa A.length xc, .int .i64 F, .slice xv nl xd, .int .i64 D], .agg #[.int .i64 T, .slice ya A.length yc, .int .i64 F, .slice yv nl yd, .int .i64 D]] w fun e w' => e = .returned (.bool true) ∧ Below w.heap.size w w' := by
  have HX0 := Lib.hid ((Cs.new w w.heap.size #[.int .i64 T, .slice xa A.length xc, .int .i64 F, .slice xv nl xd, .int .i64 D] 30 rfl).alloc (.cells #[.int .i64 T, .slice ya A.length yc, .int .i64 F, .slice yv nl yd, .int .i64 D] 30))
  have HY0 := Lib.hid (Cs.new (w.alloc (.cells #[.int .i64 T, .slice xa A.length xc, .int .i64 F, .slice xv nl xd, .int .i64 D] 30)) (w.heap.size + 1) #[.int .i64 T, .slice ya A.length yc, .int .i64 F, .slice yv nl yd, .int .i64 D] 30 (by simp))
  have HB0 := Lib.hid (al2 (w := w) (o1 := .cells #[.int .i64 T, .slice xa A.length xc, .int .i64 F, .slice xv nl xd, .int .i64 D] 30) (o2 := .cells #[.int .i64 T, .slice ya A.length yc, .int .i64 F, .slice yv nl yd, .int .i64 D] 30))
  replace h1 := Lib.hid (h1.step HB0.out)
  replace h2 := Lib.hid (h2.step HB0.out)
  replace h3 := Lib.hid (h3.step HB0.out)
  replace h4 := Lib.hid (h4.step HB0.out)
  have x0 := HX0.out.c 0 rfl
  have y0 := HY0.out.c 0 rfl
  have x1 := HX0.out.c 1 rfl
  have y1 := HY0.out.c 1 rfl
  have x2 := HX0.out.c 2 rfl
  have y2 := HY0.out.c 2 rfl
  have x3 := HX0.out.c 3 rfl
  have y3 := HY0.out.c 3 rfl
  have x4 := HX0.out.c 4 rfl
  have y4 := HY0.out.c 4 rfl
  have xz := HX0.out.2.2
  have yz := HY0.out.2.2
  go_enter Try.func16, Try.ntmps16
  go_wp2_with fail
  refine (samew_any T _ _ A _ h1.out h3.out).mono ?_
  rintro e w1 ⟨rfl, b1⟩
  have HX1 := Lib.hid (HX0.out.step b1)
  have HY1 := Lib.hid (HY0.out.step b1)
  have HB1 := Lib.hid (keep2 b1 HB0.out)
  have H2 := Lib.hid (h2.out.step b1)
  have H4 := Lib.hid (h4.out.step b1)
  clear b1 xz yz x0 y0 x1 y1 x2 y2 x3 y3 x4 y4
  have x0 := HX1.out.c 0 rfl
  have y0 := HY1.out.c 0 rfl
  have x1 := HX1.out.c 1 rfl
  have y1 := HY1.out.c 1 rfl
  have x2 := HX1.out.c 2 rfl
  have y2 := HY1.out.c 2 rfl
  have x3 := HX1.out.c 3 rfl
  have y3 := HY1.out.c 3 rfl
  have x4 := HX1.out.c 4 rfl
  have y4 := HY1.out.c 4 rfl
  have xz := HX1.out.2.2
  have yz := HY1.out.2.2
  go_wp2_with fail
  refine (ints_any _ _ V V _ H2.out H4.out).mono ?_
  rintro e w2 ⟨rfl, k, hk⟩
  have b2 : Below w1.heap.size w1 w2 := by rw [hk]; exact below_drewN' _ _ _
  have HX2 := Lib.hid (HX1.out.step b2)
  have HY2 := Lib.hid (HY1.out.step b2)
  have HB2 := Lib.hid (keep2 b2 HB1.out)
  clear hk b2 xz yz x0 y0 x1 y1 x2 y2 x3 y3 x4 y4
  have x0 := HX2.out.c 0 rfl
  have y0 := HY2.out.c 0 rfl
  have x1 := HX2.out.c 1 rfl
  have y1 := HY2.out.c 1 rfl
  have x2 := HX2.out.c 2 rfl
  have y2 := HY2.out.c 2 rfl
  have x3 := HX2.out.c 3 rfl
  have y3 := HY2.out.c 3 rfl
  have x4 := HX2.out.c 4 rfl
  have y4 := HY2.out.c 4 rfl
  have xz := HX2.out.2.2
  have yz := HY2.out.2.2
  go_wp2
  go_ret
  exact ⟨by simp, HB2.out⟩
end Go.Proofs.Ytkamkkjijjkfdaa
