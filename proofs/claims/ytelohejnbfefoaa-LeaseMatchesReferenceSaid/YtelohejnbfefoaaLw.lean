/- Law LeaseMajorities: the walk. -/
import Derived.Test.YtelohejnbfefoaaLr
namespace Go.Proofs.Ytelohejnbfefoaa
open Go.RowKit

/-- How many of the first k answer. -/
def trN (A : List Bool) : Nat → Nat
  | 0 => 0
  | k + 1 => trN A k + (if A.getD k false then 1 else 0)
theorem trN_le (A : List Bool) : ∀ k, trN A k ≤ k
  | 0 => by simp [trN]
  | k + 1 => by have := trN_le A k; rw [trN]; split <;> omega
theorem trN_yes {A : List Bool} {k : Nat} (h : A.getD k false = true) : trN A (k + 1) = trN A k + 1 := by rw [trN, h]; rfl
theorem trN_no {A : List Bool} {k : Nat} (h : A.getD k false = false) : trN A (k + 1) = trN A k := by rw [trN, h]; rfl
theorem yesN_trN (L : List Vo) (A : List Bool) : ∀ k, (yesN L A k).length = trN A k
  | 0 => rfl
  | k + 1 => by
    have := yesN_trN L A k
    cases h : A.getD k false
    · rw [yesN_no h, trN_no h]; exact this
    · rw [yesN_yes h, trN_yes h, List.length_append, this]; rfl
/-- How many of the first k answer and fit. -/
def sN (p : Vo → Bool) (L : List Vo) (A : List Bool) : Nat → Nat
  | 0 => 0
  | k + 1 => sN p L A k + (if A.getD k false && p (L.getD k zV) then 1 else 0)
theorem sN_le (p : Vo → Bool) (L : List Vo) (A : List Bool) : ∀ k, sN p L A k ≤ k
  | 0 => by simp [sN]
  | k + 1 => by have := sN_le p L A k; rw [sN]; split <;> omega
theorem cntN_app (p : Vo → Bool) (l m : List Vo) : ∀ k, k ≤ l.length → cntN p (l ++ m) k = cntN p l k
  | 0, _ => rfl
  | k + 1, h => by
    rw [cntN, cntN, cntN_app p l m k (by omega)]
    congr 2
    simp [List.getElem?_append_left (show k < l.length by omega)]
theorem cntN_snoc (p : Vo → Bool) (l : List Vo) (x : Vo) : cntN p (l ++ [x]) (l ++ [x]).length = cntN p l l.length + (if p x then 1 else 0) := by
  rw [List.length_append, show l.length + [x].length = l.length + 1 from rfl, cntN, cntN_app p l [x] l.length (Nat.le_refl _)]
  congr 2
  simp
theorem cnt_sN (p : Vo → Bool) (L : List Vo) (A : List Bool) : ∀ k, cntN p (yesN L A k) (yesN L A k).length = sN p L A k
  | 0 => rfl
  | k + 1 => by
    have ih := cnt_sN p L A k
    cases h : A.getD k false
    · rw [yesN_no h, sN, h, ih]; rfl
    · rw [yesN_yes h, cntN_snoc, ih, sN, h]; rfl
theorem agreed_sN (L : List Vo) (A : List Bool) (h f u now : Int) : agreed L A h f u now = sN (agV h f u now) L A L.length := cnt_sN _ _ _ _
theorem sN_same {p : Vo → Bool} {L : List Vo} {A : List Bool} {k : Nat} (h : (A.getD k false && p (L.getD k zV)) = false) : sN p L A (k + 1) = sN p L A k := by rw [sN, h]; rfl
theorem sN_more {p : Vo → Bool} {L : List Vo} {A : List Bool} {k : Nat} (h : (A.getD k false && p (L.getD k zV)) = true) : sN p L A (k + 1) = sN p L A k + 1 := by rw [sN, h]; rfl
theorem elL_get {L : List Vo} {A : List Bool} {h f u now : Int} {k : Nat} (hk : k < L.length) : (elL L A h f u now).getD k zV = if A.getD k false then votV h f u now (L.getD k zV) else L.getD k zV := by
  unfold elL
  rw [List.getD_eq_getElem?_getD, List.getElem?_map, List.getElem?_range hk]
  simp only [Option.map_some, Option.getD_some, elV, hk, true_and]
theorem ag_f {h f u now : Int} {x : Vo} (hg : agV h f u now x = true) : x.f < f ∧ 1 ≤ f := by
  unfold agV agB lsB at hg
  simp only [Bool.and_eq_true, decide_eq_true_iff] at hg
  exact ⟨hg.1.2, (inr_iff.1 hg.1.1.1.2).1⟩
theorem vot_yes {h f u now : Int} {x : Vo} (ht : tmB now = true) (hg : agV h f u now x = true) : votV h f u now x = ⟨f, h, grU x.h x.u h u⟩ := by
  unfold votV; rw [if_pos (by rw [voB_ag ht]; exact hg)]
theorem vot_no {h f u now : Int} {x : Vo} (ht : tmB now = true) (hg : agV h f u now x = false) : votV h f u now x = x := by
  unfold votV; rw [if_neg (by rw [voB_ag ht]; unfold agV at hg; rw [hg]; simp)]
theorem arg_ok {n m : Nat} {x2 x3 x4 : Int} (h1 : m = n) (h2 : 2 ≤ n) (h3 : n ≤ 3) (a4 : 0 ≤ x4) (b4 : x4 ≤ 65535) : argB n m (x2 % n) (x3 % 1000000001) (1 + x4) = true := by
  subst h1
  have e1 := Int.emod_nonneg x2 (show (m : Int) ≠ 0 by omega)
  have e2 := Int.emod_lt_of_pos x2 (show (0 : Int) < m by omega)
  have e3 := Int.emod_nonneg x3 (show (1000000001 : Int) ≠ 0 by omega)
  have e4 := Int.emod_lt_of_pos x3 (show (0 : Int) < 1000000001 by omega)
  unfold argB tmB
  rw [inr_iff.2 ⟨show (2 : Int) ≤ m by omega, show (m : Int) ≤ 3 by omega⟩, inr_iff.2 ⟨e1, by omega⟩, inr_iff.2 ⟨e3, by omega⟩, inr_iff.2 ⟨show (1 : Int) ≤ 1 + x4 by omega, by omega⟩]
  simp
set_option maxRecDepth 100000 in
set_option maxHeartbeats 16000000 in
theorem maj_out (v va : Value) (L : List Vo) (A : List Bool) (x2 x3 x4 : Int) (w : World) (hl : VosAt w v L) (ha : BosAt w va A) (a2 : 0 ≤ x2) (b2 : x2 ≤ 255) (a3 : 0 ≤ x3) (b3 : x3 ≤ 4294967295) (a4 : 0 ≤ x4) (b4 : x4 ≤ 65535) (hs : ¬ (2 ≤ L.length ∧ L.length ≤ 3 ∧ A.length = L.length)) :
    Calls Try.prog 7 #[v, va, .int .u8 x2, .int .u32 x3, .int .u16 x4] w fun e w' => e = .returned (.bool true) ∧ Below w.heap.size w w' := by
  have HL := Lib.hid hl
  have HA := Lib.hid ha
  obtain ⟨a, cap, rfl, hm, -⟩ := hl
  obtain ⟨aa, capa, rfl, hma, -⟩ := ha
  unfold maxLen at hm hma
  have FL_1 := Lib.hid (HL.out)
  have FA_2 := Lib.hid (HA.out)
  have hs2 : L.length < 2 ∨ (2 ≤ L.length ∧ 3 < L.length) ∨ (2 ≤ L.length ∧ L.length ≤ 3 ∧ A.length ≠ L.length) := by omega
  clear hs
  rcases hs2 with h1 | ⟨h1, h2⟩ | ⟨h1, h2, h3⟩
  · go_enter Try.func7, Try.ntmps7
    go_wp2_with fail
    refine (head_any _).mono ?_
    rintro e w1 ⟨rfl, b1⟩
    have B1 := Lib.hid b1
    clear b1
    go_wp2
    go_ret
    exact ⟨rfl, B1.out⟩
  · go_enter Try.func7, Try.ntmps7
    go_wp2_with fail
    refine (head_any _).mono ?_
    rintro e w1 ⟨rfl, b1⟩
    have B1 := Lib.hid b1
    clear b1
    go_wp2
    go_ret
    exact ⟨rfl, B1.out⟩
  · have q1 : (A.length != L.length) = true := by simpa using h3
    have q2 : ((A.length : Int) != (L.length : Int)) = true := by simp; omega
    clear h3
    go_enter Try.func7, Try.ntmps7
    go_wp2_with fail
    refine (head_any _).mono ?_
    rintro e w1 ⟨rfl, b1⟩
    have B1 := Lib.hid b1
    clear b1
    go_wp2
    go_ret
    exact ⟨rfl, B1.out⟩
set_option maxRecDepth 100000 in
set_option maxHeartbeats 16000000 in
theorem maj_few (v va : Value) (L : List Vo) (A : List Bool) (x2 x3 x4 : Int) (w : World) (hl : VosAt w v L) (ha : BosAt w va A) (a2 : 0 ≤ x2) (b2 : x2 ≤ 255) (a3 : 0 ≤ x3) (b3 : x3 ≤ 4294967295) (a4 : 0 ≤ x4) (b4 : x4 ≤ 65535) (h2 : 2 ≤ L.length) (h3 : L.length ≤ 3) (hn : A.length = L.length) (hew : ¬ L.length < 2 * trN A L.length) :
    Calls Try.prog 7 #[v, va, .int .u8 x2, .int .u32 x3, .int .u16 x4] w fun e w' => e = .returned (.bool true) ∧ Below w.heap.size w w' := by
  have HL := Lib.hid hl
  have HA := Lib.hid ha
  obtain ⟨a, cap, rfl, hm, -⟩ := hl
  obtain ⟨aa, capa, rfl, hma, -⟩ := ha
  unfold maxLen at hm hma
  have HWN := Lib.hid hew
  have HN := Lib.hid hn
  have e1 := Int.emod_nonneg x2 (show (L.length : Int) ≠ 0 by omega)
  have e2 := Int.emod_lt_of_pos x2 (show (0 : Int) < L.length by omega)
  have e3 := Int.emod_nonneg x3 (show (1000000001 : Int) ≠ 0 by omega)
  have e4 := Int.emod_lt_of_pos x3 (show (0 : Int) < 1000000001 by omega)
  have HEW := Lib.hid (EW.no (L := L) (A := A) (hub := x2 % L.length) (now := x3 % 1000000001) (len := 1 + x4) 0 0 0 22 (PW.few (arg_ok hn h2 h3 a4 b4) (by rw [yesN_trN]; exact hew)) (by decide))
  clear hew
  have HLL := hn
  clear hn
  rw [HLL] at HA ⊢
  clear HLL
  have FL_1 := Lib.hid (HL.out)
  have FA_2 := Lib.hid (HA.out)
  have HB0 := Lib.hid (Below.refl w.heap.size w)
  go_enter Try.func7, Try.ntmps7
  go_wp2_with fail
  refine (head_any _).mono ?_
  rintro e u1 ⟨rfl, b1⟩
  have FL_3 := Lib.hid (FL_1.out.step b1)
  clear FL_1
  have FA_4 := Lib.hid (FA_2.out.step b1)
  clear FA_2
  have HB5 := Lib.hid (keep2 b1 HB0.out)
  clear HB0 b1
  go_wp2_with fail
  refine (elect_any HEW.out _ _ _ FL_3.out FA_4.out).mono ?_
  rintro e u2 ⟨r, rfl, hr, b2⟩
  have FL_6 := Lib.hid (FL_3.out.step b2)
  clear FL_3
  have FA_7 := Lib.hid (FA_4.out.step b2)
  clear FA_4
  have HB8 := Lib.hid (keep2 b2 HB5.out)
  clear HB5 b2
  have FV_9 := Lib.hid (hr)
  clear hr
  have FL_10 := Lib.hid (FL_6.out.step (al u2 (.cells #[.int .i64 0, .int .i64 0, .int .i64 0] 27)))
  clear FL_6
  have FA_11 := Lib.hid (FA_7.out.step (al u2 (.cells #[.int .i64 0, .int .i64 0, .int .i64 0] 27)))
  clear FA_7
  have FV_12 := Lib.hid (FV_9.out.step (al u2 (.cells #[.int .i64 0, .int .i64 0, .int .i64 0] 27)))
  clear FV_9
  have FX_13 := Lib.hid (Cs.new u2 (u2.heap.size) #[.int .i64 0, .int .i64 0, .int .i64 0] 27 (by simp))
  have HB14 : Hid (Below w.heap.size w (u2.alloc (.cells #[.int .i64 0, .int .i64 0, .int .i64 0] 27))) := HB8.out.alloc HB8.out.size _
  clear HB8
  obtain ⟨ar, cr, rfl, -, -⟩ := FV_12.out
  go_wp2_with fail
  obtain ⟨wq, hwq⟩ : ∃ wq, (u2.alloc (.cells #[.int .i64 0, .int .i64 0, .int .i64 0] 27)) = wq := ⟨_, rfl⟩
  rw [hwq] at FL_10 FA_11 FV_12 FX_13 HB14 ⊢
  clear hwq
  go_loop [15, 16] (fun y i => ∃ k : Nat, k ≤ L.length ∧ i = .int .i64 k ∧ y = .int .i64 (trN A k)) (fun _ i => L.length - (intOf i).toNat)
  case atStart => exact ⟨0, by omega, rfl, rfl⟩
  case round =>
    obtain ⟨k, hk, rfl, rfl⟩ := hrel
    by_cases hlt : k < L.length
    · obtain ⟨a3, cap3, hvb, -, hct⟩ := FA_11.out
      obtain ⟨rfl, -, rfl⟩ : aa = a3 ∧ L.length = A.length ∧ capa = cap3 := by simpa using hvb
      have hlta : k < A.length := by rw [HN.out]; exact hlt
      obtain ⟨b5, off2, rfl, hct2⟩ := hct (by intro h; rw [h] at hlta; simp at hlta)
      have y0 := hct2 k _ (bo_get hlta)
      have HT := Lib.hid (trN_le A k)
      have HT2 := HT.out
      clear hct hvb hct2 hlta
      cases hA : A.getD k false
      · have HE := Lib.hid (trN_no hA)
        rw [hA] at y0
        clear hA
        go_wp2
        go_round
        case rel => exact ⟨k + 1, by omega, by go_num, by rw [HE.out]⟩
        case measure => simp [intOf]; omega
      · have HE := Lib.hid (trN_yes hA)
        rw [hA] at y0
        clear hA
        go_wp2
        go_round
        case rel => exact ⟨k + 1, by omega, by go_num, by rw [HE.out]; go_num⟩
        case measure => simp [intOf]; omega
    · obtain rfl : k = L.length := by omega
      have HT := trN_le A L.length
      have hew := HWN.out
      have xX0 := FX_13.out.c 0 rfl
      have xX1 := FX_13.out.c 1 rfl
      have xX2 := FX_13.out.c 2 rfl
      have xzX := FX_13.out.2.2
      go_wp2
      go_ret
      exact ⟨rfl, (by repeat (first | with_reducible exact HB14.out | with_reducible exact Below.refl _ _ | ((with_reducible refine Below.setCell ?_ ?_ _); rotate_left; focus (first | (simp; done) | (simp; omega) | omega)) | ((with_reducible refine Below.alloc ?_ ?_ _); rotate_left; focus (first | (simp; done) | (simp; omega) | omega)) | with_reducible refine Below.trans ?_ (below_drewN' _ _ _) | with_reducible refine Below.trans ?_ (below_drew _ _)))⟩
set_option maxRecDepth 100000 in
set_option maxHeartbeats 16000000 in
theorem maj_lim (v va : Value) (L : List Vo) (A : List Bool) (x2 x3 x4 : Int) (w : World) (hl : VosAt w v L) (ha : BosAt w va A) (a2 : 0 ≤ x2) (b2 : x2 ≤ 255) (a3 : 0 ≤ x3) (b3 : x3 ≤ 4294967295) (a4 : 0 ≤ x4) (b4 : x4 ≤ 65535) (h2 : 2 ≤ L.length) (h3 : L.length ≤ 3) (hn : A.length = L.length) (hew : L.length < 2 * trN A L.length) (hg : 1000000000 ≤ gN (yesN L A L.length) (yesN L A L.length).length) :
    Calls Try.prog 7 #[v, va, .int .u8 x2, .int .u32 x3, .int .u16 x4] w fun e w' => e = .returned (.bool true) ∧ Below w.heap.size w w' := by
  have HL := Lib.hid hl
  have HA := Lib.hid ha
  obtain ⟨a, cap, rfl, hm, -⟩ := hl
  obtain ⟨aa, capa, rfl, hma, -⟩ := ha
  unfold maxLen at hm hma
  have HWN := Lib.hid hew
  have HN := Lib.hid hn
  have e1 := Int.emod_nonneg x2 (show (L.length : Int) ≠ 0 by omega)
  have e2 := Int.emod_lt_of_pos x2 (show (0 : Int) < L.length by omega)
  have e3 := Int.emod_nonneg x3 (show (1000000001 : Int) ≠ 0 by omega)
  have e4 := Int.emod_lt_of_pos x3 (show (0 : Int) < 1000000001 by omega)
  have HEW := Lib.hid (EW.no (L := L) (A := A) (hub := x2 % L.length) (now := x3 % 1000000001) (len := 1 + x4) 0 0 0 2 (PW.lim (arg_ok hn h2 h3 a4 b4) (by rw [yesN_trN]; exact hew) hg) (by decide))
  clear hew hg
  have HLL := hn
  clear hn
  rw [HLL] at HA ⊢
  clear HLL
  have FL_1 := Lib.hid (HL.out)
  have FA_2 := Lib.hid (HA.out)
  have HB0 := Lib.hid (Below.refl w.heap.size w)
  go_enter Try.func7, Try.ntmps7
  go_wp2_with fail
  refine (head_any _).mono ?_
  rintro e u1 ⟨rfl, b1⟩
  have FL_3 := Lib.hid (FL_1.out.step b1)
  clear FL_1
  have FA_4 := Lib.hid (FA_2.out.step b1)
  clear FA_2
  have HB5 := Lib.hid (keep2 b1 HB0.out)
  clear HB0 b1
  go_wp2_with fail
  refine (elect_any HEW.out _ _ _ FL_3.out FA_4.out).mono ?_
  rintro e u2 ⟨r, rfl, hr, b2⟩
  have FL_6 := Lib.hid (FL_3.out.step b2)
  clear FL_3
  have FA_7 := Lib.hid (FA_4.out.step b2)
  clear FA_4
  have HB8 := Lib.hid (keep2 b2 HB5.out)
  clear HB5 b2
  have FV_9 := Lib.hid (hr)
  clear hr
  have FL_10 := Lib.hid (FL_6.out.step (al u2 (.cells #[.int .i64 0, .int .i64 0, .int .i64 0] 27)))
  clear FL_6
  have FA_11 := Lib.hid (FA_7.out.step (al u2 (.cells #[.int .i64 0, .int .i64 0, .int .i64 0] 27)))
  clear FA_7
  have FV_12 := Lib.hid (FV_9.out.step (al u2 (.cells #[.int .i64 0, .int .i64 0, .int .i64 0] 27)))
  clear FV_9
  have FX_13 := Lib.hid (Cs.new u2 (u2.heap.size) #[.int .i64 0, .int .i64 0, .int .i64 0] 27 (by simp))
  have HB14 : Hid (Below w.heap.size w (u2.alloc (.cells #[.int .i64 0, .int .i64 0, .int .i64 0] 27))) := HB8.out.alloc HB8.out.size _
  clear HB8
  obtain ⟨ar, cr, rfl, -, -⟩ := FV_12.out
  go_wp2_with fail
  obtain ⟨wq, hwq⟩ : ∃ wq, (u2.alloc (.cells #[.int .i64 0, .int .i64 0, .int .i64 0] 27)) = wq := ⟨_, rfl⟩
  rw [hwq] at FL_10 FA_11 FV_12 FX_13 HB14 ⊢
  clear hwq
  go_loop [15, 16] (fun y i => ∃ k : Nat, k ≤ L.length ∧ i = .int .i64 k ∧ y = .int .i64 (trN A k)) (fun _ i => L.length - (intOf i).toNat)
  case atStart => exact ⟨0, by omega, rfl, rfl⟩
  case round =>
    obtain ⟨k, hk, rfl, rfl⟩ := hrel
    by_cases hlt : k < L.length
    · obtain ⟨a3, cap3, hvb, -, hct⟩ := FA_11.out
      obtain ⟨rfl, -, rfl⟩ : aa = a3 ∧ L.length = A.length ∧ capa = cap3 := by simpa using hvb
      have hlta : k < A.length := by rw [HN.out]; exact hlt
      obtain ⟨b5, off2, rfl, hct2⟩ := hct (by intro h; rw [h] at hlta; simp at hlta)
      have y0 := hct2 k _ (bo_get hlta)
      have HT := Lib.hid (trN_le A k)
      have HT2 := HT.out
      clear hct hvb hct2 hlta
      cases hA : A.getD k false
      · have HE := Lib.hid (trN_no hA)
        rw [hA] at y0
        clear hA
        go_wp2
        go_round
        case rel => exact ⟨k + 1, by omega, by go_num, by rw [HE.out]⟩
        case measure => simp [intOf]; omega
      · have HE := Lib.hid (trN_yes hA)
        rw [hA] at y0
        clear hA
        go_wp2
        go_round
        case rel => exact ⟨k + 1, by omega, by go_num, by rw [HE.out]; go_num⟩
        case measure => simp [intOf]; omega
    · obtain rfl : k = L.length := by omega
      have HT := trN_le A L.length
      have hew := HWN.out
      have xX0 := FX_13.out.c 0 rfl
      have xX1 := FX_13.out.c 1 rfl
      have xX2 := FX_13.out.c 2 rfl
      have xzX := FX_13.out.2.2
      go_wp2
      go_ret
      exact ⟨rfl, (by repeat (first | with_reducible exact HB14.out | with_reducible exact Below.refl _ _ | ((with_reducible refine Below.setCell ?_ ?_ _); rotate_left; focus (first | (simp; done) | (simp; omega) | omega)) | ((with_reducible refine Below.alloc ?_ ?_ _); rotate_left; focus (first | (simp; done) | (simp; omega) | omega)) | with_reducible refine Below.trans ?_ (below_drewN' _ _ _) | with_reducible refine Below.trans ?_ (below_drew _ _)))⟩
set_option maxRecDepth 100000 in
set_option maxHeartbeats 16000000 in
theorem maj_elfew (v va : Value) (L : List Vo) (A : List Bool) (x2 x3 x4 : Int) (w : World) (hl : VosAt w v L) (ha : BosAt w va A) (a2 : 0 ≤ x2) (b2 : x2 ≤ 255) (a3 : 0 ≤ x3) (b3 : x3 ≤ 4294967295) (a4 : 0 ≤ x4) (b4 : x4 ≤ 65535) (h2 : 2 ≤ L.length) (h3 : L.length ≤ 3) (hn : A.length = L.length) (hew : L.length < 2 * trN A L.length) (h f u now : Int) (ht : tmB now = true) (hE : EW L A (x2 % L.length) (x3 % 1000000001) (1 + x4) (elL L A h f u now) 0 0 0 22) :
    Calls Try.prog 7 #[v, va, .int .u8 x2, .int .u32 x3, .int .u16 x4] w fun e w' => e = .returned (.bool true) ∧ Below w.heap.size w w' := by
  have HL := Lib.hid hl
  have HA := Lib.hid ha
  obtain ⟨a, cap, rfl, hm, -⟩ := hl
  obtain ⟨aa, capa, rfl, hma, -⟩ := ha
  unfold maxLen at hm hma
  have HWN := Lib.hid hew
  have HTM := Lib.hid ht
  clear ht
  have hEW := hE
  clear hE
  have HN := Lib.hid hn
  have e1 := Int.emod_nonneg x2 (show (L.length : Int) ≠ 0 by omega)
  have e2 := Int.emod_lt_of_pos x2 (show (0 : Int) < L.length by omega)
  have e3 := Int.emod_nonneg x3 (show (1000000001 : Int) ≠ 0 by omega)
  have e4 := Int.emod_lt_of_pos x3 (show (0 : Int) < 1000000001 by omega)
  have HEW := Lib.hid (hEW)
  clear hEW hew
  have HLL := hn
  clear hn
  rw [HLL] at HA ⊢
  clear HLL
  have FL_1 := Lib.hid (HL.out)
  have FA_2 := Lib.hid (HA.out)
  have HB0 := Lib.hid (Below.refl w.heap.size w)
  go_enter Try.func7, Try.ntmps7
  go_wp2_with fail
  refine (head_any _).mono ?_
  rintro e u1 ⟨rfl, b1⟩
  have FL_3 := Lib.hid (FL_1.out.step b1)
  clear FL_1
  have FA_4 := Lib.hid (FA_2.out.step b1)
  clear FA_2
  have HB5 := Lib.hid (keep2 b1 HB0.out)
  clear HB0 b1
  go_wp2_with fail
  refine (elect_any HEW.out _ _ _ FL_3.out FA_4.out).mono ?_
  rintro e u2 ⟨r, rfl, hr, b2⟩
  have FL_6 := Lib.hid (FL_3.out.step b2)
  clear FL_3
  have FA_7 := Lib.hid (FA_4.out.step b2)
  clear FA_4
  have HB8 := Lib.hid (keep2 b2 HB5.out)
  clear HB5 b2
  have FV_9 := Lib.hid (hr)
  clear hr
  have FL_10 := Lib.hid (FL_6.out.step (al u2 (.cells #[.int .i64 0, .int .i64 0, .int .i64 0] 27)))
  clear FL_6
  have FA_11 := Lib.hid (FA_7.out.step (al u2 (.cells #[.int .i64 0, .int .i64 0, .int .i64 0] 27)))
  clear FA_7
  have FV_12 := Lib.hid (FV_9.out.step (al u2 (.cells #[.int .i64 0, .int .i64 0, .int .i64 0] 27)))
  clear FV_9
  have FX_13 := Lib.hid (Cs.new u2 (u2.heap.size) #[.int .i64 0, .int .i64 0, .int .i64 0] 27 (by simp))
  have HB14 : Hid (Below w.heap.size w (u2.alloc (.cells #[.int .i64 0, .int .i64 0, .int .i64 0] 27))) := HB8.out.alloc HB8.out.size _
  clear HB8
  obtain ⟨ar, cr, rfl, -, -⟩ := FV_12.out
  go_wp2_with fail
  obtain ⟨wq, hwq⟩ : ∃ wq, (u2.alloc (.cells #[.int .i64 0, .int .i64 0, .int .i64 0] 27)) = wq := ⟨_, rfl⟩
  rw [hwq] at FL_10 FA_11 FV_12 FX_13 HB14 ⊢
  clear hwq
  go_loop [15, 16] (fun y i => ∃ k : Nat, k ≤ L.length ∧ i = .int .i64 k ∧ y = .int .i64 (trN A k)) (fun _ i => L.length - (intOf i).toNat)
  case atStart => exact ⟨0, by omega, rfl, rfl⟩
  case round =>
    obtain ⟨k, hk, rfl, rfl⟩ := hrel
    by_cases hlt : k < L.length
    · obtain ⟨a3, cap3, hvb, -, hct⟩ := FA_11.out
      obtain ⟨rfl, -, rfl⟩ : aa = a3 ∧ L.length = A.length ∧ capa = cap3 := by simpa using hvb
      have hlta : k < A.length := by rw [HN.out]; exact hlt
      obtain ⟨b5, off2, rfl, hct2⟩ := hct (by intro h; rw [h] at hlta; simp at hlta)
      have y0 := hct2 k _ (bo_get hlta)
      have HT := Lib.hid (trN_le A k)
      have HT2 := HT.out
      clear hct hvb hct2 hlta
      cases hA : A.getD k false
      · have HE := Lib.hid (trN_no hA)
        rw [hA] at y0
        clear hA
        go_wp2
        go_round
        case rel => exact ⟨k + 1, by omega, by go_num, by rw [HE.out]⟩
        case measure => simp [intOf]; omega
      · have HE := Lib.hid (trN_yes hA)
        rw [hA] at y0
        clear hA
        go_wp2
        go_round
        case rel => exact ⟨k + 1, by omega, by go_num, by rw [HE.out]; go_num⟩
        case measure => simp [intOf]; omega
    · obtain rfl : k = L.length := by omega
      have HT := trN_le A L.length
      have hew := HWN.out
      have xX0 := FX_13.out.c 0 rfl
      have xX1 := FX_13.out.c 1 rfl
      have xX2 := FX_13.out.c 2 rfl
      have xzX := FX_13.out.2.2
      rw [show (elL L A h f u now).length = L.length by simp [elL]]
      go_wp2_with fail
      clear xX0 xX1 xX2 xzX
      go_loopw [17, 18] (fun s i wr => ∃ k n : Nat, k ≤ L.length ∧ i = .int .i64 k ∧ s = .int .i64 ((0 : Nat) : Nat) ∧ wr = wq.drewN n) (fun _ i _ => L.length - (intOf i).toNat)
      case atStart => exact ⟨0, 0, by omega, rfl, rfl, rfl⟩
      case round =>
        obtain ⟨k, n, hk, rfl, rfl, rfl⟩ := hrel
        clear hew HT
        by_cases hlt : k < L.length
        · obtain ⟨a3, cap3, hvb, -, hct⟩ := FA_11.out.step (below_drewN' _ _ n)
          obtain ⟨rfl, -, rfl⟩ : aa = a3 ∧ L.length = A.length ∧ capa = cap3 := by simpa using hvb
          have hlta : k < A.length := by rw [HN.out]; exact hlt
          obtain ⟨b5, off2, rfl, hct2⟩ := hct (by intro h; rw [h] at hlta; simp at hlta)
          have y0 := hct2 k _ (bo_get hlta)
          obtain ⟨a4', cap4, hvc, -, hcu⟩ := FL_10.out.step (below_drewN' _ _ n)
          obtain ⟨rfl, rfl⟩ : a = a4' ∧ cap = cap4 := by simpa using hvc
          obtain ⟨b6, off3, rfl, hcu2⟩ := hcu (by intro h; rw [h] at hlt; simp at hlt)
          obtain ⟨l0, l1, l2⟩ := hcu2 k _ (vo_get hlt)
          obtain ⟨a5, cap5, hvd, -, hcv⟩ := FV_12.out.step (below_drewN' _ _ n)
          have hltv : k < (elL L A h f u now).length := by simpa [elL] using hlt
          obtain ⟨rfl, rfl⟩ : ar = a5 ∧ cr = cap5 := by simpa using hvd
          obtain ⟨b7, off4, rfl, hcv2⟩ := hcv (by intro h; rw [h] at hltv; simp at hltv)
          obtain ⟨m0, m1, m2⟩ := hcv2 k _ (vo_get hltv)
          rw [elL_get hlt] at m0 m1 m2
          have HX := Lib.hid (FX_13.out.step (below_drewN' _ _ n))
          have z0 := HX.out.c 0 rfl
          have z1 := HX.out.c 1 rfl
          have z2 := HX.out.c 2 rfl
          clear hct hvb hct2 hlta hvc hcu hcu2 hvd hcv hcv2 hltv HX
          obtain ⟨wn, hwn⟩ : ∃ wn, wq.drewN n = wn := ⟨_, rfl⟩
          rw [hwn] at y0 l0 l1 l2 m0 m1 m2 z0 z1 z2 ⊢
          have HW := Lib.hid hwn
          clear hwn
          cases hA : A.getD k false
          · rw [hA] at y0 m0 m1 m2
            simp only [Bool.false_eq_true, if_false] at m0 m1 m2
            clear hA
            generalize L.getD k zV = x at *
            go_wp2_with fail
            go_quiet (fail)
            go_wp2_with fail
            go_quiet (fail)
            go_wp2
            go_roundw
            case rel => exact ⟨k + 1, _, by omega, by go_num, rfl, by rw [← HW.out]; exact World.drewN_drewN _ _ _⟩
            case measure => simp [intOf]; omega
          · rw [hA] at y0 m0 m1 m2
            simp only [if_true] at m0 m1 m2
            cases hG : agV h f u now (L.getD k zV)
            · rw [vot_no HTM.out hG] at m0 m1 m2
              clear hA hG
              generalize L.getD k zV = x at *
              obtain ⟨xf, xh, xu⟩ := x
              simp only at l0 l1 l2 m0 m1 m2
              by_cases q1 : xf = 0
              · subst q1
                by_cases q2 : xh = 0
                · subst q2
                  go_wp2_with fail
                  go_quiet (fail)
                  go_wp2_with fail
                  go_quiet (fail)
                  go_wp2
                  go_roundw
                  case rel => exact ⟨k + 1, _, by omega, by go_num, rfl, by rw [← HW.out]; exact World.drewN_drewN _ _ _⟩
                  case measure => simp [intOf]; omega
                · have q3 : (xh == 0) = false := by simpa using q2
                  clear q2
                  go_wp2_with fail
                  go_quiet (fail)
                  go_wp2_with fail
                  go_quiet (fail)
                  go_wp2
                  go_roundw
                  case rel => exact ⟨k + 1, _, by omega, by go_num, rfl, by rw [← HW.out]; exact World.drewN_drewN _ _ _⟩
                  case measure => simp [intOf]; omega
              · have q3 : (xf == 0) = false := by simpa using q1
                clear q1
                go_wp2_with fail
                go_quiet (fail)
                go_wp2_with fail
                go_quiet (fail)
                go_wp2
                go_roundw
                case rel => exact ⟨k + 1, _, by omega, by go_num, rfl, by rw [← HW.out]; exact World.drewN_drewN _ _ _⟩
                case measure => simp [intOf]; omega
            · rw [vot_yes HTM.out hG] at m0 m1 m2
              obtain ⟨g1, g2⟩ := ag_f hG
              clear hA hG
              generalize L.getD k zV = x at *
              obtain ⟨xf, xh, xu⟩ := x
              simp only at l0 l1 l2 m0 m1 m2 g1
              generalize grU xh xu h u = U at *
              have q3 : (f == 0) = false := by simp; omega
              clear g1 g2
              go_wp2_with fail
              go_quiet (fail)
              go_wp2_with fail
              go_quiet (fail)
              go_wp2
              go_roundw
              case rel => exact ⟨k + 1, _, by omega, by go_num, rfl, by rw [← HW.out]; exact World.drewN_drewN _ _ _⟩
              case measure => simp [intOf]; omega
        · obtain rfl : k = L.length := by omega
          have HX := Lib.hid (FX_13.out.step (below_drewN' _ _ n))
          have z0 := HX.out.c 0 rfl
          have z1 := HX.out.c 1 rfl
          have z2 := HX.out.c 2 rfl
          clear HX
          go_wp2
          go_ret
          exact ⟨rfl, HB14.out.trans (below_drewN' _ _ _)⟩
set_option maxRecDepth 100000 in
set_option maxHeartbeats 16000000 in
theorem maj_ok (v va : Value) (L : List Vo) (A : List Bool) (x2 x3 x4 : Int) (w : World) (hl : VosAt w v L) (ha : BosAt w va A) (a2 : 0 ≤ x2) (b2 : x2 ≤ 255) (a3 : 0 ≤ x3) (b3 : x3 ≤ 4294967295) (a4 : 0 ≤ x4) (b4 : x4 ≤ 65535) (h2 : 2 ≤ L.length) (h3 : L.length ≤ 3) (hn : A.length = L.length) (hew : L.length < 2 * trN A L.length) (h f u now : Int) (ht : tmB now = true) (hE : EW L A (x2 % L.length) (x3 % 1000000001) (1 + x4) (elL L A h f u now) h f u 0) (hs : L.length < 2 * sN (agV h f u now) L A L.length) :
    Calls Try.prog 7 #[v, va, .int .u8 x2, .int .u32 x3, .int .u16 x4] w fun e w' => e = .returned (.bool true) ∧ Below w.heap.size w w' := by
  have HL := Lib.hid hl
  have HA := Lib.hid ha
  obtain ⟨a, cap, rfl, hm, -⟩ := hl
  obtain ⟨aa, capa, rfl, hma, -⟩ := ha
  unfold maxLen at hm hma
  have HWN := Lib.hid hew
  have HTM := Lib.hid ht
  clear ht
  have HS := Lib.hid hs
  clear hs
  have hEW := hE
  clear hE
  have HN := Lib.hid hn
  have e1 := Int.emod_nonneg x2 (show (L.length : Int) ≠ 0 by omega)
  have e2 := Int.emod_lt_of_pos x2 (show (0 : Int) < L.length by omega)
  have e3 := Int.emod_nonneg x3 (show (1000000001 : Int) ≠ 0 by omega)
  have e4 := Int.emod_lt_of_pos x3 (show (0 : Int) < 1000000001 by omega)
  have HEW := Lib.hid (hEW)
  clear hEW hew
  have HLL := hn
  clear hn
  rw [HLL] at HA ⊢
  clear HLL
  have FL_1 := Lib.hid (HL.out)
  have FA_2 := Lib.hid (HA.out)
  have HB0 := Lib.hid (Below.refl w.heap.size w)
  go_enter Try.func7, Try.ntmps7
  go_wp2_with fail
  refine (head_any _).mono ?_
  rintro e u1 ⟨rfl, b1⟩
  have FL_3 := Lib.hid (FL_1.out.step b1)
  clear FL_1
  have FA_4 := Lib.hid (FA_2.out.step b1)
  clear FA_2
  have HB5 := Lib.hid (keep2 b1 HB0.out)
  clear HB0 b1
  go_wp2_with fail
  refine (elect_any HEW.out _ _ _ FL_3.out FA_4.out).mono ?_
  rintro e u2 ⟨r, rfl, hr, b2⟩
  have FL_6 := Lib.hid (FL_3.out.step b2)
  clear FL_3
  have FA_7 := Lib.hid (FA_4.out.step b2)
  clear FA_4
  have HB8 := Lib.hid (keep2 b2 HB5.out)
  clear HB5 b2
  have FV_9 := Lib.hid (hr)
  clear hr
  have FL_10 := Lib.hid (FL_6.out.step (al u2 (.cells #[.int .i64 h, .int .i64 f, .int .i64 u] 27)))
  clear FL_6
  have FA_11 := Lib.hid (FA_7.out.step (al u2 (.cells #[.int .i64 h, .int .i64 f, .int .i64 u] 27)))
  clear FA_7
  have FV_12 := Lib.hid (FV_9.out.step (al u2 (.cells #[.int .i64 h, .int .i64 f, .int .i64 u] 27)))
  clear FV_9
  have FX_13 := Lib.hid (Cs.new u2 (u2.heap.size) #[.int .i64 h, .int .i64 f, .int .i64 u] 27 (by simp))
  have HB14 : Hid (Below w.heap.size w (u2.alloc (.cells #[.int .i64 h, .int .i64 f, .int .i64 u] 27))) := HB8.out.alloc HB8.out.size _
  clear HB8
  obtain ⟨ar, cr, rfl, -, -⟩ := FV_12.out
  go_wp2_with fail
  obtain ⟨wq, hwq⟩ : ∃ wq, (u2.alloc (.cells #[.int .i64 h, .int .i64 f, .int .i64 u] 27)) = wq := ⟨_, rfl⟩
  rw [hwq] at FL_10 FA_11 FV_12 FX_13 HB14 ⊢
  clear hwq
  go_loop [15, 16] (fun y i => ∃ k : Nat, k ≤ L.length ∧ i = .int .i64 k ∧ y = .int .i64 (trN A k)) (fun _ i => L.length - (intOf i).toNat)
  case atStart => exact ⟨0, by omega, rfl, rfl⟩
  case round =>
    obtain ⟨k, hk, rfl, rfl⟩ := hrel
    by_cases hlt : k < L.length
    · obtain ⟨a3, cap3, hvb, -, hct⟩ := FA_11.out
      obtain ⟨rfl, -, rfl⟩ : aa = a3 ∧ L.length = A.length ∧ capa = cap3 := by simpa using hvb
      have hlta : k < A.length := by rw [HN.out]; exact hlt
      obtain ⟨b5, off2, rfl, hct2⟩ := hct (by intro h; rw [h] at hlta; simp at hlta)
      have y0 := hct2 k _ (bo_get hlta)
      have HT := Lib.hid (trN_le A k)
      have HT2 := HT.out
      clear hct hvb hct2 hlta
      cases hA : A.getD k false
      · have HE := Lib.hid (trN_no hA)
        rw [hA] at y0
        clear hA
        go_wp2
        go_round
        case rel => exact ⟨k + 1, by omega, by go_num, by rw [HE.out]⟩
        case measure => simp [intOf]; omega
      · have HE := Lib.hid (trN_yes hA)
        rw [hA] at y0
        clear hA
        go_wp2
        go_round
        case rel => exact ⟨k + 1, by omega, by go_num, by rw [HE.out]; go_num⟩
        case measure => simp [intOf]; omega
    · obtain rfl : k = L.length := by omega
      have HT := trN_le A L.length
      have hew := HWN.out
      have xX0 := FX_13.out.c 0 rfl
      have xX1 := FX_13.out.c 1 rfl
      have xX2 := FX_13.out.c 2 rfl
      have xzX := FX_13.out.2.2
      rw [show (elL L A h f u now).length = L.length by simp [elL]]
      go_wp2_with fail
      clear xX0 xX1 xX2 xzX
      go_loopw [17, 18] (fun s i wr => ∃ k n : Nat, k ≤ L.length ∧ i = .int .i64 k ∧ s = .int .i64 ((sN (agV h f u now) L A k) : Nat) ∧ wr = wq.drewN n) (fun _ i _ => L.length - (intOf i).toNat)
      case atStart => exact ⟨0, 0, by omega, rfl, rfl, rfl⟩
      case round =>
        obtain ⟨k, n, hk, rfl, rfl, rfl⟩ := hrel
        clear hew HT
        have HT := sN_le (agV h f u now) L A k
        by_cases hlt : k < L.length
        · obtain ⟨a3, cap3, hvb, -, hct⟩ := FA_11.out.step (below_drewN' _ _ n)
          obtain ⟨rfl, -, rfl⟩ : aa = a3 ∧ L.length = A.length ∧ capa = cap3 := by simpa using hvb
          have hlta : k < A.length := by rw [HN.out]; exact hlt
          obtain ⟨b5, off2, rfl, hct2⟩ := hct (by intro h; rw [h] at hlta; simp at hlta)
          have y0 := hct2 k _ (bo_get hlta)
          obtain ⟨a4', cap4, hvc, -, hcu⟩ := FL_10.out.step (below_drewN' _ _ n)
          obtain ⟨rfl, rfl⟩ : a = a4' ∧ cap = cap4 := by simpa using hvc
          obtain ⟨b6, off3, rfl, hcu2⟩ := hcu (by intro h; rw [h] at hlt; simp at hlt)
          obtain ⟨l0, l1, l2⟩ := hcu2 k _ (vo_get hlt)
          obtain ⟨a5, cap5, hvd, -, hcv⟩ := FV_12.out.step (below_drewN' _ _ n)
          have hltv : k < (elL L A h f u now).length := by simpa [elL] using hlt
          obtain ⟨rfl, rfl⟩ : ar = a5 ∧ cr = cap5 := by simpa using hvd
          obtain ⟨b7, off4, rfl, hcv2⟩ := hcv (by intro h; rw [h] at hltv; simp at hltv)
          obtain ⟨m0, m1, m2⟩ := hcv2 k _ (vo_get hltv)
          rw [elL_get hlt] at m0 m1 m2
          have HX := Lib.hid (FX_13.out.step (below_drewN' _ _ n))
          have z0 := HX.out.c 0 rfl
          have z1 := HX.out.c 1 rfl
          have z2 := HX.out.c 2 rfl
          clear hct hvb hct2 hlta hvc hcu hcu2 hvd hcv hcv2 hltv HX
          obtain ⟨wn, hwn⟩ : ∃ wn, wq.drewN n = wn := ⟨_, rfl⟩
          rw [hwn] at y0 l0 l1 l2 m0 m1 m2 z0 z1 z2 ⊢
          have HW := Lib.hid hwn
          clear hwn
          cases hA : A.getD k false
          · rw [hA] at y0 m0 m1 m2
            simp only [Bool.false_eq_true, if_false] at m0 m1 m2
            have HE := Lib.hid (sN_same (p := agV h f u now) (L := L) (A := A) (k := k) (by rw [hA]; rfl))
            clear hA
            generalize L.getD k zV = x at *
            go_wp2_with fail
            go_quiet (fail)
            go_wp2_with fail
            go_quiet (fail)
            go_wp2
            go_roundw
            case rel => exact ⟨k + 1, _, by omega, by go_num, by rw [HE.out], by rw [← HW.out]; exact World.drewN_drewN _ _ _⟩
            case measure => simp [intOf]; omega
          · rw [hA] at y0 m0 m1 m2
            simp only [if_true] at m0 m1 m2
            cases hG : agV h f u now (L.getD k zV)
            · rw [vot_no HTM.out hG] at m0 m1 m2
              have HE := Lib.hid (sN_same (p := agV h f u now) (L := L) (A := A) (k := k) (by rw [hA]; rw [hG]; rfl))
              clear hA hG
              generalize L.getD k zV = x at *
              obtain ⟨xf, xh, xu⟩ := x
              simp only at l0 l1 l2 m0 m1 m2
              by_cases q1 : xf = f
              · subst q1
                by_cases q2 : xh = h
                · subst q2
                  go_wp2_with fail
                  go_quiet (fail)
                  go_wp2_with fail
                  go_quiet (fail)
                  go_wp2
                  go_roundw
                  case rel => exact ⟨k + 1, _, by omega, by go_num, by rw [HE.out], by rw [← HW.out]; exact World.drewN_drewN _ _ _⟩
                  case measure => simp [intOf]; omega
                · have q3 : (xh == h) = false := by simpa using q2
                  clear q2
                  go_wp2_with fail
                  go_quiet (fail)
                  go_wp2_with fail
                  go_quiet (fail)
                  go_wp2
                  go_roundw
                  case rel => exact ⟨k + 1, _, by omega, by go_num, by rw [HE.out], by rw [← HW.out]; exact World.drewN_drewN _ _ _⟩
                  case measure => simp [intOf]; omega
              · have q3 : (xf == f) = false := by simpa using q1
                clear q1
                go_wp2_with fail
                go_quiet (fail)
                go_wp2_with fail
                go_quiet (fail)
                go_wp2
                go_roundw
                case rel => exact ⟨k + 1, _, by omega, by go_num, by rw [HE.out], by rw [← HW.out]; exact World.drewN_drewN _ _ _⟩
                case measure => simp [intOf]; omega
            · rw [vot_yes HTM.out hG] at m0 m1 m2
              have HE := Lib.hid (sN_more (p := agV h f u now) (L := L) (A := A) (k := k) (by rw [hA, hG]; rfl))
              obtain ⟨g1, g2⟩ := ag_f hG
              clear hA hG
              generalize L.getD k zV = x at *
              obtain ⟨xf, xh, xu⟩ := x
              simp only at l0 l1 l2 m0 m1 m2 g1
              generalize grU xh xu h u = U at *
              have q3 : (f == xf) = false := by simp; omega
              clear g1 g2
              go_wp2_with fail
              go_quiet (fail)
              go_wp2_with fail
              go_quiet (fail)
              go_wp2
              go_roundw
              case rel => exact ⟨k + 1, _, by omega, by go_num, by rw [HE.out]; go_num, by rw [← HW.out]; exact World.drewN_drewN _ _ _⟩
              case measure => simp [intOf]; omega
        · obtain rfl : k = L.length := by omega
          have HX := Lib.hid (FX_13.out.step (below_drewN' _ _ n))
          have z0 := HX.out.c 0 rfl
          have z1 := HX.out.c 1 rfl
          have z2 := HX.out.c 2 rfl
          clear HX
          have hs := HS.out
          go_wp2
          go_ret
          exact ⟨rfl, HB14.out.trans (below_drewN' _ _ _)⟩
theorem majorities_any (v : Value) (L : List Vo) (va : Value) (A : List Bool) (x2 x3 x4 : Int) (w : World) (hl : VosAt w v L) (ha : BosAt w va A) (a2 : 0 ≤ x2) (b2 : x2 ≤ 255) (a3 : 0 ≤ x3) (b3 : x3 ≤ 4294967295) (a4 : 0 ≤ x4) (b4 : x4 ≤ 65535) :
    Calls Try.prog 7 #[v, va, .int .u8 x2, .int .u32 x3, .int .u16 x4] w fun e w' => e = .returned (.bool true) ∧ Below w.heap.size w w' := by
  by_cases hs : 2 ≤ L.length ∧ L.length ≤ 3 ∧ A.length = L.length
  · obtain ⟨h2, h3, hn⟩ := hs
    have harg := arg_ok (x2 := x2) (x3 := x3) hn h2 h3 a4 b4
    by_cases hy : L.length < 2 * trN A L.length
    · have hy2 := hy
      rw [← yesN_trN L A] at hy2
      by_cases hg : 1000000000 ≤ gN (yesN L A L.length) (yesN L A L.length).length
      · exact maj_lim v va L A x2 x3 x4 w hl ha a2 b2 a3 b3 a4 b4 h2 h3 hn hy hg
      · have hp := PW.ok _ harg hy2 hg rfl
        have ht := (arg_all harg).2.2.2.1
        by_cases hq : L.length < 2 * agreed L A (x2 % L.length) (IntKind.i64.wrap (gN (yesN L A L.length) (yesN L A L.length).length + 1)) (x3 % 1000000001 + (1 + x4)) (x3 % 1000000001)
        · have hE := EW.ok _ _ _ hp hq
          rw [agreed_sN] at hq
          exact maj_ok v va L A x2 x3 x4 w hl ha a2 b2 a3 b3 a4 b4 h2 h3 hn hy _ _ _ _ ht hE hq
        · have hE := EW.few _ _ _ hp hq
          exact maj_elfew v va L A x2 x3 x4 w hl ha a2 b2 a3 b3 a4 b4 h2 h3 hn hy _ _ _ _ ht hE
    · exact maj_few v va L A x2 x3 x4 w hl ha a2 b2 a3 b3 a4 b4 h2 h3 hn hy
  · exact maj_out v va L A x2 x3 x4 w hl ha a2 b2 a3 b3 a4 b4 hs
end Go.Proofs.Ytelohejnbfefoaa
