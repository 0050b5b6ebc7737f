/- Shedding: the law of room. -/
import Derived.Test.YtpablikcidlkaaaTc
namespace Go.Proofs.Ytpablikcidlkaaa
open Go.RowKit

set_option maxRecDepth 100000 in
set_option maxHeartbeats 4000000 in
theorem lost_any (v vb : Value) (l : List (Int × Int)) (K : List Bool) (w : World) (h : ConsAt w v l) (hK : BosAt w vb K) (hn : K.length = l.length) (h6 : l.length ≤ 60) :
    Calls Try.prog 19 #[v, vb] w fun e w' => e = .returned (.int .i64 (lostK l K l.length)) ∧ Below w.heap.size w w' := by
  have HL := Lib.hid h
  have HK := Lib.hid hK
  obtain ⟨va, vc, rfl⟩ : ∃ a c, v = .slice a l.length c := (by obtain ⟨a, c, e, -⟩ := h; exact ⟨a, c, e⟩)
  obtain ⟨ba, bc, rfl⟩ : ∃ a c, vb = .slice a K.length c := (by obtain ⟨a, c, e, -⟩ := hK; exact ⟨a, c, e⟩)
  have hn1 : K.length ≤ l.length := by omega
  have hn2 : l.length ≤ K.length := by omega
  clear h hK hn
  go_enter Try.func19, Try.ntmps19
  go_wp2_with fail
  go_loopw [5, 6] (fun lv iv wr => ∃ k : Nat, k ≤ l.length ∧ iv = .int .i64 k ∧ lv = .int .i64 (lostK l K k) ∧ Hid (Below w.heap.size w wr)) (fun _ iv _ => l.length - (intOf iv).toNat)
  case atStart => exact ⟨0, by omega, rfl, rfl, Lib.hid (Below.refl _ _)⟩
  case round =>
    obtain ⟨k, hk, rfl, rfl, HW⟩ := hrel
    by_cases hlt : k < l.length
    · have hlb : k < K.length := by omega
      obtain ⟨a3, c3, hvb, -, -, hbs⟩ := HK.out.step HW.out
      obtain ⟨rfl, rfl⟩ : ba = a3 ∧ bc = c3 := by simpa using hvb
      obtain ⟨xb, xo, rfl, hy⟩ := hbs (by intro e; rw [e] at hlb; simp at hlb)
      have y0 := hy k _ (win_get (d := false) hlb)
      have t1 : (k : Int) < (l.length : Int) := by omega
      have t2 : (k : Int) < (K.length : Int) := by omega
      have z2 : xb < wr.heap.size := World.block_lt_of_cell? _ _ y0
      have hin := lostK_in l K k
      have HSS := Lib.hid (show lostK l K (k + 1) = if (!K.getD k false && (decide (lostK l K k < 0) || befB (pri l) k (lostK l K k).toNat)) = true then (k : Int) else lostK l K k from rfl)
      clear hy hbs hvb
      generalize lostK l K k = L at *
      generalize K.getD k false = t at *
      obtain ⟨hi1, hi2, hi3⟩ := hin
      cases t
      · by_cases hL : L < 0
        · have hLb : decide (L < 0) = true := decide_eq_true hL
          have HS2 := Lib.hid (show lostK l K (k + 1) = (k : Int) by rw [HSS.out, hLb]; simp)
          clear hi3 HSS
          go_wp2_with fail
          go_roundw
          case rel => exact ⟨k + 1, hlt, by go_num, by rw [HS2.out], HW⟩
          case measure => simp [intOf]; omega
        · have hLb : decide (L < 0) = false := decide_eq_false hL
          obtain ⟨i, hik, rfl⟩ : ∃ i : Nat, i < k ∧ L = i := by rcases hi3 with h | h; exact absurd h hL; exact h
          have HSS2 := Lib.hid (show lostK l K (k + 1) = if befB (pri l) k i = true then (k : Int) else (i : Int) by rw [HSS.out, hLb, Int.toNat_natCast]; simp)
          have HFI := Lib.hid (first_any _ l k i wr (HL.out.step HW.out) hlt (by omega) h6)
          clear HSS hi1 hi2 hi3
          obtain ⟨bb, hbb⟩ : ∃ z, befB (pri l) k i = z := ⟨_, rfl⟩
          rw [hbb] at HSS2 HFI
          clear hbb
          cases bb
          · go_wp2_with fail
            refine HFI.out.mono ?_
            rintro e w2 ⟨rfl, b⟩
            have HW2 := Lib.hid (keep2 b HW.out)
            clear b
            go_wp2_with fail
            go_roundw
            case rel => exact ⟨k + 1, hlt, by go_num, by rw [HSS2.out]; simp, HW2⟩
            case measure => simp [intOf]; omega
          · go_wp2_with fail
            refine HFI.out.mono ?_
            rintro e w2 ⟨rfl, b⟩
            have HW2 := Lib.hid (keep2 b HW.out)
            clear b
            go_wp2_with fail
            go_roundw
            case rel => exact ⟨k + 1, hlt, by go_num, by rw [HSS2.out]; simp, HW2⟩
            case measure => simp [intOf]; omega
      · have HS2 := Lib.hid (show lostK l K (k + 1) = L by rw [HSS.out]; simp)
        clear hi3 HSS
        go_wp2_with fail
        go_roundw
        case rel => exact ⟨k + 1, hlt, by go_num, by rw [HS2.out], HW⟩
        case measure => simp [intOf]; omega
    · obtain rfl : k = l.length := by omega
      go_wp2
      go_ret
      exact ⟨rfl, HW.out⟩
set_option maxRecDepth 100000 in
set_option maxHeartbeats 8000000 in
theorem room_any (v : Value) (l : List (Int × Int)) (x m : Int) (w : World) (h : ConsAt w v l) (hm0 : 0 ≤ m) (hm1 : m ≤ 4294967295) :
    Calls Try.prog 9 #[v, .int .i64 x, .int .u32 m] w fun e w' => e = .returned (.bool true) ∧ Below w.heap.size w w' := by
  have HL := Lib.hid h
  obtain ⟨va, vc, rfl, hml⟩ : ∃ a c, v = .slice a l.length c ∧ l.length ≤ maxLen := (by obtain ⟨a, c, e, _, hm, -⟩ := h; exact ⟨a, c, e, hm⟩)
  unfold maxLen at hml
  clear h
  cases hf : fineB l x
  · have HF := Lib.hid hf
    clear hf
    go_enter Try.func9, Try.ntmps9
    go_wp2_with fail
    refine (head_any _).mono ?_
    rintro e w1 ⟨rfl, b⟩
    replace HL := Lib.hid (HL.out.step b)
    have HB := Lib.hid b
    clear b
    go_wp2_with fail
    refine (fine_q _ l x _ HL.out _ HF.out).mono ?_
    rintro e w2 ⟨rfl, b⟩
    replace HB := Lib.hid (keep2 b HB.out)
    clear b
    go_wp2
    go_ret
    exact ⟨by simp, HB.out⟩
  · have HF := Lib.hid hf
    obtain ⟨f1, f2, f3⟩ := fine_parts hf
    have hx := wiB_iff.1 f3
    have HS1 := Lib.hid (show (acB l && wiB x 1000000000) = true by rw [f2, f3]; rfl)
    have HPP := Lib.hid (fun i => (acB_pow f2 i).1)
    have HF2 := Lib.hid f2
    obtain ⟨K1, hK1⟩ : ∃ K, (kpL l fun _ => x) = K := ⟨_, rfl⟩
    have HK1 := Lib.hid hK1
    have HN1 := Lib.hid (show K1.length = l.length by rw [← hK1]; exact kp_len _ _)
    have g1 : ((K1.length : Int) != (l.length : Int)) = false := by have := HN1.out; simp; omega
    have g1b : ((K1.length : Int) = (l.length : Int)) = True := by have := HN1.out; simp; omega
    clear hf f2 f3 hK1
    go_enter Try.func9, Try.ntmps9
    go_wp2_with fail
    refine (head_any _).mono ?_
    rintro e w1 ⟨rfl, b⟩
    replace HL := Lib.hid (HL.out.step b)
    have HB := Lib.hid b
    clear b
    go_wp2_with fail
    refine (fine_q _ l x _ HL.out _ HF.out).mono ?_
    rintro e w2 ⟨rfl, b⟩
    replace HL := Lib.hid (HL.out.step b)
    replace HB := Lib.hid (keep2 b HB.out)
    clear b
    go_wp2_with fail
    refine (keep_e _ l x _ HL.out true K1 HS1.out HK1.out).mono ?_
    rintro e w3 ⟨u3, rfl, r, b⟩
    replace HL := Lib.hid (HL.out.step b)
    replace HB := Lib.hid (keep2 b HB.out)
    have HR := Lib.hid r
    obtain ⟨ka, kc, rfl, -⟩ := r
    clear b
    go_wp2_with fail
    · have HSY := Lib.hid (show (acB l && wiB (x + m % 1000000001) 1000000000) = true by rw [HF2.out, wiB_iff.2 ⟨by omega, by omega⟩]; rfl)
      have hroom := room_is l x (x + m % 1000000001) (by omega) HPP.out
      rw [HK1.out] at hroom
      obtain ⟨K2, hK2⟩ : ∃ K, (kpL l fun _ => (x + m % 1000000001)) = K := ⟨_, rfl⟩
      rw [hK2] at hroom
      have HK2 := Lib.hid hK2
      have HN2 := Lib.hid (show K2.length = l.length by rw [← hK2]; exact kp_len _ _)
      have g2 : ((K2.length : Int) != (l.length : Int)) = false := by have := HN2.out; simp; omega
      have g2b : ((K2.length : Int) = (l.length : Int)) = True := by have := HN2.out; simp; omega
      have HROOM := Lib.hid hroom
      clear hK2 hroom
      refine (keep_e _ l (x + m % 1000000001) _ HL.out true K2 HSY.out HK2.out).mono ?_
      rintro e w4 ⟨u4, rfl, r, b⟩
      replace HL := Lib.hid (HL.out.step b)
      replace HB := Lib.hid (keep2 b HB.out)
      replace HR := Lib.hid (HR.out.step b)
      have HR2 := Lib.hid r
      obtain ⟨la, lc, rfl, -⟩ := r
      clear b
      go_wp2_with fail
      refine (lost_any _ _ l K1 _ HL.out HR.out HN1.out f1).mono ?_
      rintro e w5 ⟨rfl, b⟩
      replace HL := Lib.hid (HL.out.step b)
      replace HB := Lib.hid (keep2 b HB.out)
      replace HR2 := Lib.hid (HR2.out.step b)
      clear b
      go_wp2_with fail
      refine (lost_any _ _ l K2 _ HL.out HR2.out HN2.out f1).mono ?_
      rintro e w6 ⟨rfl, b⟩
      replace HL := Lib.hid (HL.out.step b)
      replace HB := Lib.hid (keep2 b HB.out)
      clear b
      have hroom := HROOM.out
      clear HROOM
      obtain ⟨L1, hL1⟩ : ∃ z, lostK l K1 l.length = z := ⟨_, rfl⟩
      obtain ⟨L2, hL2⟩ : ∃ z, lostK l K2 l.length = z := ⟨_, rfl⟩
      rw [hL1, hL2] at hroom
      rw [hL1, hL2]
      clear hL1 hL2
      rcases hroom with hneg | ⟨i, j, hi, hj, rfl, rfl, hij⟩
      · have hnb : decide (L2 < 0) = true := decide_eq_true hneg
        go_wp2
        go_ret
        exact ⟨by simp, HB.out⟩
      · have q1 : ¬ (j : Int) < 0 := by omega
        have q1b : decide ((j : Int) < 0) = false := decide_eq_false q1
        have q2 : (0 : Int) ≤ (i : Int) := by omega
        have q2b : decide ((0 : Int) ≤ (i : Int)) = true := decide_eq_true q2
        by_cases hE : i = j
        · subst hE
          go_wp2
          go_ret
          exact ⟨by simp, HB.out⟩
        · have q3 : ((i : Int) == (j : Int)) = false := by simp; omega
          have q3b : ((i : Int) = (j : Int)) = False := by simp; omega
          have hbf : befB (pri l) i j = true := hij.resolve_left hE
          have HFI := Lib.hid (first_any _ l i j _ HL.out hi hj f1)
          rw [hbf] at HFI
          clear hbf hij
          replace hE := Lib.hid hE
          go_wp2_with fail
          refine HFI.out.mono ?_
          rintro e w7 ⟨rfl, b⟩
          replace HB := Lib.hid (keep2 b HB.out)
          clear b
          go_wp2
          go_ret
          exact ⟨by simp, HB.out⟩
    · have HSY := Lib.hid (show (acB l && wiB (1000000000) 1000000000) = true by rw [HF2.out, wiB_iff.2 ⟨by omega, by omega⟩]; rfl)
      have hroom := room_is l x (1000000000) (by omega) HPP.out
      rw [HK1.out] at hroom
      obtain ⟨K2, hK2⟩ : ∃ K, (kpL l fun _ => (1000000000)) = K := ⟨_, rfl⟩
      rw [hK2] at hroom
      have HK2 := Lib.hid hK2
      have HN2 := Lib.hid (show K2.length = l.length by rw [← hK2]; exact kp_len _ _)
      have g2 : ((K2.length : Int) != (l.length : Int)) = false := by have := HN2.out; simp; omega
      have g2b : ((K2.length : Int) = (l.length : Int)) = True := by have := HN2.out; simp; omega
      have HROOM := Lib.hid hroom
      clear hK2 hroom
      refine (keep_e _ l (1000000000) _ HL.out true K2 HSY.out HK2.out).mono ?_
      rintro e w4 ⟨u4, rfl, r, b⟩
      replace HL := Lib.hid (HL.out.step b)
      replace HB := Lib.hid (keep2 b HB.out)
      replace HR := Lib.hid (HR.out.step b)
      have HR2 := Lib.hid r
      obtain ⟨la, lc, rfl, -⟩ := r
      clear b
      go_wp2_with fail
      refine (lost_any _ _ l K1 _ HL.out HR.out HN1.out f1).mono ?_
      rintro e w5 ⟨rfl, b⟩
      replace HL := Lib.hid (HL.out.step b)
      replace HB := Lib.hid (keep2 b HB.out)
      replace HR2 := Lib.hid (HR2.out.step b)
      clear b
      go_wp2_with fail
      refine (lost_any _ _ l K2 _ HL.out HR2.out HN2.out f1).mono ?_
      rintro e w6 ⟨rfl, b⟩
      replace HL := Lib.hid (HL.out.step b)
      replace HB := Lib.hid (keep2 b HB.out)
      clear b
      have hroom := HROOM.out
      clear HROOM
      obtain ⟨L1, hL1⟩ : ∃ z, lostK l K1 l.length = z := ⟨_, rfl⟩
      obtain ⟨L2, hL2⟩ : ∃ z, lostK l K2 l.length = z := ⟨_, rfl⟩
      rw [hL1, hL2] at hroom
      rw [hL1, hL2]
      clear hL1 hL2
      rcases hroom with hneg | ⟨i, j, hi, hj, rfl, rfl, hij⟩
      · have hnb : decide (L2 < 0) = true := decide_eq_true hneg
        go_wp2
        go_ret
        exact ⟨by simp, HB.out⟩
      · have q1 : ¬ (j : Int) < 0 := by omega
        have q1b : decide ((j : Int) < 0) = false := decide_eq_false q1
        have q2 : (0 : Int) ≤ (i : Int) := by omega
        have q2b : decide ((0 : Int) ≤ (i : Int)) = true := decide_eq_true q2
        by_cases hE : i = j
        · subst hE
          go_wp2
          go_ret
          exact ⟨by simp, HB.out⟩
        · have q3 : ((i : Int) == (j : Int)) = false := by simp; omega
          have q3b : ((i : Int) = (j : Int)) = False := by simp; omega
          have hbf : befB (pri l) i j = true := hij.resolve_left hE
          have HFI := Lib.hid (first_any _ l i j _ HL.out hi hj f1)
          rw [hbf] at HFI
          clear hbf hij
          replace hE := Lib.hid hE
          go_wp2_with fail
          refine HFI.out.mono ?_
          rintro e w7 ⟨rfl, b⟩
          replace HB := Lib.hid (keep2 b HB.out)
          clear b
          go_wp2
          go_ret
          exact ⟨by simp, HB.out⟩
end Go.Proofs.Ytpablikcidlkaaa
