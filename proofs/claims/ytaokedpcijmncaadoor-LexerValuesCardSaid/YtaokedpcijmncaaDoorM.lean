/- The walk of 'LexerValues'. -/
import Derived.Test.YtaokedpcijmncaaDoorL
import Derived.Test.YtaokedpcijmncaaDoorJ
namespace Go.Proofs.YtaokedpcijmncaaDoor
open Go.RowKit Go.Maps

theorem cut_one (x : Item) (h : x.err = 0) : cut 0 [x] = none := cut_none 0 [x] (by simpa using h) (by simp)
set_option maxRecDepth 100000 in
set_option maxHeartbeats 4000000 in
theorem values_walk (raw digit zeros : Int) (w : World) (hT : Tab w) (r0 : 0 ≤ raw) (r1 : raw ≤ 4294967295) (d0 : 0 ≤ digit) (d1 : digit ≤ 255) (z0 : 0 ≤ zeros) (z1 : zeros ≤ 255) :
    Calls Tryd.prog 7 #[.int .u32 raw, .int .u8 digit, .int .u8 zeros] w fun e w' => e = .returned (.bool true) ∧ Below w.heap.size w w' := by
  have hp := hT.pos
  obtain ⟨d, hd⟩ : ∃ d : Nat, digit % 10 = d := ⟨(digit % 10).toNat, by omega⟩
  have hd9 : d ≤ 9 := by omega
  go_enter Tryd.func7, Tryd.ntmps7
  go_wp2_with fail
  refine (head_any w hT).mono ?_
  rintro e w1 ⟨rfl, b1⟩
  have hT1 := Lib.hid (hT.below b1 hp)
  go_wp2_with fail
  have hm0 : 0 ≤ raw % 1000000000 := by omega
  have hm1 : raw % 1000000000 < 1000000000 := by omega
  generalize raw % 1000000000 = m at *
  have hz0 : 0 ≤ zeros % 9 := by omega
  have hz1 : zeros % 9 ≤ 8 := by omega
  obtain ⟨q, hq⟩ : ∃ q, zeros % 9 = q := ⟨_, rfl⟩
  rw [hq] at hz0 hz1
  refine (decimal15 8 (by omega) m w1 hm0 (by omega) (by have : (10 : Int) ^ (8 + 1) = 1000000000 := rfl; omega)).mono ?_
  rintro e w2 ⟨rfl, b2⟩
  obtain ⟨N, rfl⟩ := Int.eq_ofNat_of_zero_le hm0
  rw [Int.toNat_natCast]
  have hD := digS_Dgs 8 N (by omega) (by have : 10 ^ (8 + 1) = 1000000000 := rfl; omega)
  generalize digS (8 + 1) N = t0 at *
  have HD := Lib.hid hD
  have hT2 := Lib.hid (hT1.out.below b2 hT1.out.pos)
  have HB := Lib.hid (b1.trans (b2.mono b1.size))
  have HM := Lib.hid hm1
  clear hD b1 b2 hT1 hT r0 r1 hm1
  go_wp2_with fail
  go_loop [10, 11] (fun s i => ∃ (t : ByteArray) (k : Nat), s = .string t ∧ i = .int .i64 k ∧ k ≤ 8 ∧ Hid (Dgs t N) ∧ t.size ≤ 9) (fun _ i => 9 - (intOf i).toNat)
  case atStart => exact ⟨t0, 0, rfl, rfl, by omega, HD, HD.out.hi⟩
  case round =>
    obtain ⟨t, k, rfl, rfl, hk, HDt, ht9⟩ := hrel
    by_cases hc : k < q
    · by_cases hc2 : t.size < 9
      · have hz : (⟨#[48]⟩ : ByteArray).size = 1 := rfl
        have HZ := Lib.hid (zero_Dgs t N HDt.out hc2)
        clear hd9 d0 d1 hz0 hp HB HM HD hT2
        go_wp2_with fail
        go_round
        case rel => exact ⟨zeroS ++ t, k + 1, rfl, by go_num, by omega, HZ, HZ.out.hi⟩
        case measure => simp [intOf]; omega
      · have hc3 : ¬ (t.size : Int) < 9 := by omega
        have HP := Lib.hid hp
        clear d0 d1 hz0 HD hp
        go_wp2_with fail
        refine (lex_ok t w2 (by have := HDt.out.hi; omega) hT2.out [⟨2, t, 10 * N, 0, 0⟩] (digits_its t N HDt.out) (cut_one _ rfl)).mono ?_
        rintro e w3 ⟨v3, rfl, t3, b3⟩
        go_wp2_with fail
        refine (decimal15 0 (by omega) d w3 (by omega) (by omega) (by simp; omega)).mono ?_
        rintro e w4 ⟨rfl, b4⟩
        rw [Int.toNat_natCast]
        have hcs : (digS 1 d).size = 1 := by have h1 := digN_pos 0 d; have h2 := digS_size 1 d; exact Nat.le_antisymm h2 h1
        have hC := Lib.hid (digS_Dgs 0 d (by omega) (by simp; omega))
        rw [Nat.zero_add] at hC
        rw [Nat.zero_add]
        generalize digS 1 d = c at *
        have hds : (⟨#[46]⟩ : ByteArray).size = 1 := rfl
        have hT3 := Lib.hid ((hT2.out.below b3 hT2.out.pos).below b4 (hT2.out.below b3 hT2.out.pos).pos)
        go_wp2_with fail
        refine (lex_ok (t ++ dotS ++ c) w4 (by have := HDt.out.hi; simp only [ByteArray.size_append]; have : dotS.size = 1 := rfl; omega) hT3.out [⟨2, t ++ dotS ++ c, 10 * N + d, 0, 0⟩] (frac_its t c N d HDt.out hC.out hcs) (cut_one _ rfl)).mono ?_
        rintro e w5 ⟨v5, rfl, t5, b5⟩
        have T3 := t3.below (b4.trans (b5.mono b4.size)) (Nat.le_refl _)
        obtain ⟨a3, c3, rfl, h3⟩ := T3
        obtain ⟨g3, _, rfl, k3⟩ := h3 (by simp)
        obtain ⟨a5, c5, rfl, h5⟩ := t5
        obtain ⟨g5, _, rfl, k5⟩ := h5 (by simp)
        have x1 : w5.cell? ⟨g3, 2, none⟩ = some (.int .i64 (10 * N)) := (k3 0 _ rfl).2.2.1
        have x2 : w5.cell? ⟨g3, 1, none⟩ = some (.string t) := (k3 0 _ rfl).2.1
        have x3 : w5.cell? ⟨g5, 2, none⟩ = some (.int .i64 (10 * N + d)) := (k5 0 _ rfl).2.2.1
        have HE := Lib.hid (HB.out.trans (((b3.trans (b4.mono b3.size)).trans (b5.mono (Nat.le_trans b3.size b4.size))).mono HB.out.size))
        have hNb := HM.out
        clear h3 h5 k3 k5 t3 b3 b4 b5 HB hT2 hT3 hC HDt hcs hds
        simp only [List.length_cons, List.length_nil, Nat.zero_add]
        go_wp2_with fail
        go_ret
        exact ⟨rfl, HE.out⟩
    · clear d0 d1 hz0 HD hp
      go_wp2_with fail
      refine (lex_ok t w2 (by have := HDt.out.hi; omega) hT2.out [⟨2, t, 10 * N, 0, 0⟩] (digits_its t N HDt.out) (cut_one _ rfl)).mono ?_
      rintro e w3 ⟨v3, rfl, t3, b3⟩
      go_wp2_with fail
      refine (decimal15 0 (by omega) d w3 (by omega) (by omega) (by simp; omega)).mono ?_
      rintro e w4 ⟨rfl, b4⟩
      rw [Int.toNat_natCast]
      have hcs : (digS 1 d).size = 1 := by have h1 := digN_pos 0 d; have h2 := digS_size 1 d; exact Nat.le_antisymm h2 h1
      have hC := Lib.hid (digS_Dgs 0 d (by omega) (by simp; omega))
      rw [Nat.zero_add] at hC
      rw [Nat.zero_add]
      generalize digS 1 d = c at *
      have hds : (⟨#[46]⟩ : ByteArray).size = 1 := rfl
      have hT3 := Lib.hid ((hT2.out.below b3 hT2.out.pos).below b4 (hT2.out.below b3 hT2.out.pos).pos)
      go_wp2_with fail
      refine (lex_ok (t ++ dotS ++ c) w4 (by have := HDt.out.hi; simp only [ByteArray.size_append]; have : dotS.size = 1 := rfl; omega) hT3.out [⟨2, t ++ dotS ++ c, 10 * N + d, 0, 0⟩] (frac_its t c N d HDt.out hC.out hcs) (cut_one _ rfl)).mono ?_
      rintro e w5 ⟨v5, rfl, t5, b5⟩
      have T3 := t3.below (b4.trans (b5.mono b4.size)) (Nat.le_refl _)
      obtain ⟨a3, c3, rfl, h3⟩ := T3
      obtain ⟨g3, _, rfl, k3⟩ := h3 (by simp)
      obtain ⟨a5, c5, rfl, h5⟩ := t5
      obtain ⟨g5, _, rfl, k5⟩ := h5 (by simp)
      have x1 : w5.cell? ⟨g3, 2, none⟩ = some (.int .i64 (10 * N)) := (k3 0 _ rfl).2.2.1
      have x2 : w5.cell? ⟨g3, 1, none⟩ = some (.string t) := (k3 0 _ rfl).2.1
      have x3 : w5.cell? ⟨g5, 2, none⟩ = some (.int .i64 (10 * N + d)) := (k5 0 _ rfl).2.2.1
      have HE := Lib.hid (HB.out.trans (((b3.trans (b4.mono b3.size)).trans (b5.mono (Nat.le_trans b3.size b4.size))).mono HB.out.size))
      have hNb := HM.out
      clear h3 h5 k3 k5 t3 b3 b4 b5 HB hT2 hT3 hC HDt hcs hds
      simp only [List.length_cons, List.length_nil, Nat.zero_add]
      go_wp2_with fail
      go_ret
      exact ⟨rfl, HE.out⟩
end Go.Proofs.YtaokedpcijmncaaDoor
