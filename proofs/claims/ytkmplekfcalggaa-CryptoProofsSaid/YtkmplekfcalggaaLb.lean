/- Hash trees: 'Few' of the reference; law CryptoPaths, the walk. -/
import Derived.Test.YtkmplekfcalggaaTf
import Derived.Test.YtkmplekfcalggaaGk
namespace Go.Proofs.Ytkmplekfcalggaa
open Go.RowKit

def big (l : List Int) : Bool := decide (40 < l.length)
def fewB (L : List (List Int)) (m : Int) : Bool := !L.any big && decide ((L.length : Int) ≤ m)
theorem big_none {L : List (List Int)} (h : ∀ j, j < L.length → big (L.getD j []) = false) : L.any big = false := by
  rw [List.any_eq_false]
  intro x hx
  obtain ⟨j, hj, rfl⟩ := List.getElem_of_mem hx
  have := h j hj
  simp [hj] at this
  simp [this]
theorem big_hit {L : List (List Int)} {k : Nat} (h : k < L.length) (hb : big (L.getD k []) = true) : L.any big = true := by
  rw [List.any_eq_true]
  exact ⟨L.getD k [], by simp [h], hb⟩
theorem few_len {L : List (List Int)} {m : Int} (h : fewB L m = true) : (L.length : Int) ≤ m ∧ ∀ i, i < L.length → (L.getD i []).length ≤ 40 := by
  unfold fewB at h
  rw [Bool.and_eq_true, decide_eq_true_iff] at h
  refine ⟨h.2, fun i hi => ?_⟩
  have h1 : L.any big = false := by simpa using h.1
  rw [List.any_eq_false] at h1
  have := h1 (L.getD i []) (by simp [hi])
  unfold big at this
  simpa using this
set_option maxRecDepth 100000 in
set_option maxHeartbeats 4000000 in
theorem few_any (v : Value) (L : List (List Int)) (m : Int) (w : World) (h : RowsAt w v L) : Calls Try.prog 12 #[v, .int .i64 m] w fun e w' => e = .returned (.bool (fewB L m)) ∧ w = w' := by
  obtain ⟨a, cap, rfl, hm, hc⟩ := h
  unfold maxLen at hm
  have HC := Lib.hid hc
  clear hc
  go_enter Try.func12, Try.ntmps12
  go_wp2_with fail
  go_loopw [5] (fun i wr => ∃ k : Nat, k ≤ L.length ∧ i = .int .i64 k ∧ Hid (∀ j, j < k → big (L.getD j []) = false) ∧ wr = w) (fun i _ => L.length - (intOf i).toNat)
  case atStart => exact ⟨0, by omega, rfl, Lib.hid (fun j h => absurd h (by omega)), rfl⟩
  case round =>
    obtain ⟨k, hk, rfl, HN, rfl⟩ := hrel
    by_cases hlt : k < L.length
    · obtain ⟨b, off, rfl, hcs2⟩ := HC.out (by intro h; rw [h] at hlt; simp at hlt)
      obtain ⟨u, x0, hu⟩ := hcs2 k _ (rows_get hlt)
      have hf := big_hit hlt
      have HF := Lib.hid hf
      have HN2 := Lib.hid (show big (L.getD k []) = false → ∀ j, j < k + 1 → big (L.getD j []) = false from fun hx j h => by
        by_cases e : j = k
        · subst e; exact hx
        · exact HN.out j (by omega))
      clear hf HN hcs2
      generalize L.getD k [] = x at *
      obtain ⟨ua, uc, rfl, hxm, -⟩ := hu
      unfold maxLen at hxm
      by_cases hb : 40 < x.length
      · have HB := Lib.hid (show big x = true by unfold big; simp; exact hb)
        have t1 : decide ((x.length : Int) > 40) = true := by simp; omega
        have t2 : decide ((40 : Int) < x.length) = true := by simp; omega
        have HR := Lib.hid (show fewB L m = false by unfold fewB; rw [HF.out HB.out]; rfl)
        go_wp2
        go_ret
        exact ⟨by rw [HR.out]; rfl, rfl⟩
      · have HB := Lib.hid (show big x = false by unfold big; simp; omega)
        have t1 : decide ((x.length : Int) > 40) = false := by simp; omega
        have t2 : decide ((40 : Int) < x.length) = false := by simp; omega
        go_wp2
        go_roundw
        case rel => exact ⟨k + 1, hlt, by go_num, Lib.hid (HN2.out HB.out), trivial⟩
        case measure => simp [intOf]; omega
    · obtain rfl : k = L.length := by omega
      have HA := Lib.hid (show fewB L m = decide ((L.length : Int) ≤ m) by unfold fewB; rw [big_none HN.out]; rfl)
      go_wp2
      go_ret
      exact ⟨by rw [HA.out]; rfl, rfl⟩
theorem hlv_more : ∀ (f g n : Nat), n ≤ f → n ≤ g → hlv f n = hlv g n
  | 0, 0, _, _, _ => rfl
  | 0, g + 1, n, h, _ => by
    obtain rfl : n = 0 := by omega
    rfl
  | f + 1, 0, n, _, h => by
    obtain rfl : n = 0 := by omega
    rfl
  | f + 1, g + 1, n, h1, h2 => by
    unfold hlv
    by_cases g0 : 1 < n
    · rw [if_pos g0, if_pos g0, hlv_more f g ((n + 1) / 2) (by omega) (by omega)]
    · rw [if_neg g0, if_neg g0]
theorem hlv_step {f n : Nat} (h : 1 < n) (hf : n ≤ f) : hlv f n = hlv f ((n + 1) / 2) + 1 := by
  cases f with
  | zero => omega
  | succ f =>
    conv => lhs; unfold hlv
    rw [if_pos h, hlv_more f (f + 1) _ (by omega) (by omega)]
theorem hlv_end {f n : Nat} (h : ¬ 1 < n) : hlv f n = 0 := by
  cases f with
  | zero => rfl
  | succ f => unfold hlv; rw [if_neg h]
theorem stN_L2 (s : St) (x : Int) : s.L.length ≤ (stN s x).L.length := by unfold stN; split; simp; split <;> simp
theorem stK_L2 (l : List Int) (i : Int) (p : List Int) : ∀ k, 2 ≤ (stK l i p k).L.length
  | 0 => by simp [stK]
  | k + 1 => Nat.le_trans (stK_L2 l i p k) (stN_L2 _ _)
theorem lvs_get {L : List (List Int)} {j : Nat} (h : j < L.length) : (lvs L).getD j 0 = lf (L.getD j []) := by simp [lvs, h]
theorem pthA_in {L : List (List Int)} {j : Nat} (h : j < L.length) (h2 : L.length ≤ 1000) : pthA L j = pthL (rowsT (lvs L)) j := by
  unfold pthA
  rw [if_pos ⟨h2, by omega, by omega⟩]
  rfl
set_option maxRecDepth 100000 in
set_option maxHeartbeats 4000000 in
theorem paths_any (v : Value) (L : List (List Int)) (i : Int) (w : World) (h : RowsAt w v L) (i0 : 0 ≤ i) (i9 : i ≤ 255) : Calls Try.prog 8 #[v, .int .u8 i] w fun e w' => e = .returned (.bool true) ∧ Below w.heap.size w w' := by
  have HR0 := Lib.hid h
  obtain ⟨a, cap, rfl, hm, -⟩ := h
  unfold maxLen at hm
  have HB0 := Lib.hid (Below.refl w.heap.size w)
  go_enter Try.func8, Try.ntmps8
  go_wp2_with fail
  refine (head_any _).mono ?_
  rintro e u1 ⟨rfl, b1⟩
  have FR_1 := Lib.hid (HR0.out.step b1)
  clear HR0
  have HB2 := Lib.hid (keep2 b1 HB0.out)
  clear HB0 b1
  go_wp2_with fail
  refine (few_any _ L 60 _ FR_1.out).mono ?_
  rintro e w' ⟨rfl, rfl⟩
  cases hf : fewB L 60
  · go_wp2
    go_ret
    exact ⟨rfl, HB2.out⟩
  have HF := Lib.hid (few_len hf)
  clear hf
  by_cases hz : L.length = 0
  · have z1 : ((L.length : Int) == 0) = true := by simp; exact List.length_eq_zero_iff.1 hz
    go_wp2
    go_ret
    exact ⟨rfl, HB2.out⟩
  have z1 : ((L.length : Int) == 0) = false := by simp; intro e; exact hz (by rw [e]; rfl)
  have h60 : L.length ≤ 60 := by have := HF.out.1; omega
  obtain ⟨j, hj⟩ := Int.eq_ofNat_of_zero_le (Int.emod_nonneg i (show (L.length : Int) ≠ 0 by omega))
  have hjl : j < L.length := by have := Int.emod_lt_of_pos i (show (0 : Int) < (L.length : Int) by omega); omega
  have q1 : i.tmod (L.length : Int) = (j : Int) := by rw [Int.tmod_eq_emod_of_nonneg i0]; exact hj
  have q1b : i % (L.length : Int) = (j : Int) := hj
  have q2 : wrap64 (j : Int) = (j : Int) := IntWalk.wrap64_in _ (by omega)
  have q3 : ((L.length : Int) = 0) = False := by simp; intro e; exact hz (by rw [e]; rfl)
  have q4 : wrap64 i = i := IntWalk.wrap64_in _ (by omega)
  clear hj
  go_wp2_with fail
  clear q1 q1b q2 q3 q4
  refine (path_any _ L j _ FR_1.out).mono ?_
  rintro e u2 ⟨pu, rfl, hp, b2⟩
  have FR_3 := Lib.hid (FR_1.out.step b2)
  clear FR_1
  have HB4 := Lib.hid (keep2 b2 HB2.out)
  clear HB2 b2
  rw [pthA_in hjl (by omega)] at hp
  have FP_5 := Lib.hid (hp)
  clear hp
  have HPL := Lib.hid (path_len L.length (lvs L) j (by rw [lvs_len]; omega))
  have HC := Lib.hid (climb_of hjl h60 (lvs_get hjl))
  obtain ⟨P, hP⟩ : ∃ P, pthL (rowsT (lvs L)) j = P := ⟨_, rfl⟩
  rw [hP] at HPL HC FP_5
  rw [lvs_len] at HPL
  clear hP
  obtain ⟨a2, cap2, hva, -, hcs⟩ := FR_3.out
  obtain ⟨rfl, rfl⟩ : a = a2 ∧ cap = cap2 := by simpa using hva
  obtain ⟨b, off, rfl, hcs2⟩ := hcs (by intro h; rw [h] at hjl; simp at hjl)
  obtain ⟨u, x0, hu⟩ := hcs2 j _ (rows_get hjl)
  clear hcs hcs2 hva
  have HL40 := Lib.hid (HF.out.2 j hjl)
  generalize L.getD j [] = x at *
  have FU_6 := Lib.hid (hu)
  obtain ⟨ua, uc, rfl, -, -⟩ := hu
  obtain ⟨pa, pc, rfl⟩ : ∃ a c, pu = .slice a P.length c := by obtain ⟨a, c, h, -⟩ := FP_5.out; exact ⟨a, c, h⟩
  go_wp2_with fail
  clear x0
  refine (climb_any _ _ x P j _ FU_6.out FP_5.out (by have := HL40.out; omega) (by omega)).mono ?_
  rintro e u3 ⟨⟨cu, rfl, hcl⟩, b3⟩
  have FR_7 := Lib.hid (FR_3.out.step b3)
  clear FR_3
  have FP_8 := Lib.hid (FP_5.out.step b3)
  clear FP_5
  have FU_9 := Lib.hid (FU_6.out.step b3)
  clear FU_6
  have HB10 := Lib.hid (keep2 b3 HB4.out)
  clear HB4 b3
  obtain ⟨ca, cc, rfl⟩ := hcl.slice
  clear hcl
  rw [HC.out.2]
  have HL2 := Lib.hid (show 2 ≤ (clL x j P).length by unfold clL; rw [HC.out.1]; exact stK_L2 _ _ _ _)
  generalize (clL x j P).length = cl at *
  clear FU_9
  obtain ⟨rt, hrt⟩ : ∃ r, rtL L = r := ⟨_, rfl⟩
  rw [hrt]
  replace hrt := Lib.hid hrt
  go_wp2_with fail
  replace hm := Lib.hid hm
  replace h60 := Lib.hid h60
  clear hjl hz z1 i0 i9
  go_loopw [10, 11] (fun sv nv wr => ∃ q n : Nat, sv = .int .i64 q ∧ nv = .int .i64 n ∧ n ≤ L.length ∧ Hid (q + hlv L.length n = hlv L.length L.length) ∧ q + n ≤ L.length ∧ wr = u3) (fun _ nv _ => (intOf nv).toNat)
  case atStart => exact ⟨0, L.length, rfl, rfl, by omega, Lib.hid (by omega), by omega, rfl⟩
  case round =>
    obtain ⟨q, n, rfl, rfl, hn, HQ, hqn, hwr⟩ := hrel
    have hn9 : n ≤ 60 := Nat.le_trans hn h60.out
    have hq9 : q ≤ 60 := by have := h60.out; omega
    replace hn := Lib.hid hn
    replace hqn := Lib.hid hqn
    by_cases hlt : 1 < n
    · subst hwr
      have HS := Lib.hid (hlv_step hlt hn.out)
      obtain ⟨k, hk⟩ : ∃ k, (n + 1) / 2 = k := ⟨_, rfl⟩
      have t1 : decide ((n : Int) > 1) = true := by simp; omega
      have t2 : decide ((1 : Int) < n) = true := by simp; omega
      have t3 : wrap64 ((n : Int) + 1) = n + 1 := IntWalk.wrap64_in _ (by omega)
      have t4 : ((n : Int) + 1).tdiv 2 = k := by rw [Int.tdiv_eq_ediv_of_nonneg (by omega)]; omega
      have t5 : wrap64 (k : Int) = k := IntWalk.wrap64_in _ (by omega)
      have t6 : wrap64 ((q : Int) + 1) = q + 1 := IntWalk.wrap64_in _ (by omega)
      rw [hk] at HS
      go_wp2
      go_roundw
      case rel => exact ⟨q + 1, k, by go_num, rfl, by have := hn.out; omega, Lib.hid (by have := HQ.out; have := HS.out; omega), by have := hqn.out; omega, trivial⟩
      case measure => simp [intOf]; omega
    · have HE := Lib.hid (show hlv L.length L.length = q by have := HQ.out; rw [hlv_end hlt] at this; omega)
      have t1 : decide ((n : Int) > 1) = false := by simp; omega
      have t2 : decide ((1 : Int) < n) = false := by simp; omega
      subst hwr
      go_wp2_with fail
      refine (root_any _ L _ FR_7.out).mono ?_
      rintro e w9 ⟨rfl, b9⟩
      rw [hrt.out]
      have HB9 := Lib.hid (keep2 b9 HB10.out)
      have e1 : P.length = q := HPL.out.trans HE.out
      have e2 : ((cl : Int) ≥ 2) = True := by simp; have := HL2.out; omega
      have e3 : decide ((cl : Int) ≥ 2) = true := by simp; have := HL2.out; omega
      have e4 : decide ((2 : Int) ≤ cl) = true := by simp; have := HL2.out; omega
      have e5 : decide (2 ≤ cl) = true := by simp; exact HL2.out
      subst e1
      go_wp2
      go_ret
      exact ⟨rfl, HB9.out⟩
end Go.Proofs.Ytkmplekfcalggaa
