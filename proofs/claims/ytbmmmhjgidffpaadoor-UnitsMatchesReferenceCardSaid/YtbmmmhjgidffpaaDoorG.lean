/- The contracts of 'Energy', 'q', 'Short', and of the statements' fixed examples. -/
import Derived.Test.YtbmmmhjgidffpaaDoorF
import Derived.Deep.RegionHeld3
namespace Go.Proofs.YtbmmmhjgidffpaaDoor
open Go.RowKit

theorem energy_any (t1 : Int) (s1 : ByteArray) (t2 : Int) (s2 : ByteArray) (w : World) (hT : Tab w) :
    Calls Tryd.prog 22 #[.agg #[.int .i64 t1, .string s1], .agg #[.int .i64 t2, .string s2]] w fun e w' => e = .returned (.tuple #[.agg #[.int .i64 (gT t1 s1 t2 s2), .string (gS t1 s1 t2 s2)], .int .i64 (gE t1 s1 t2 s2)]) ∧ Below w.heap.size w w' := by
  by_cases ha : aE t1 s1 t2 s2 = 0
  · by_cases hd : bD t1 s1 = 4
    · by_cases he : bD t2 s2 = 3
      · cases hX : inB (bV t1 s1) (-1000000000) 1000000000
        · have := energy_far1 t1 s1 t2 s2 w hT ha hd he (Lib.hid hX)
          simpa [gT, gS, gE, gF, gOk, gIn, ha, hd, he, hX] using this
        · cases hY : inB (bV t2 s2) 0 1000000000
          · have := energy_far2 t1 s1 t2 s2 w hT ha hd he (Lib.hid hX) (Lib.hid hY)
            simpa [gT, gS, gE, gF, gOk, gIn, ha, hd, he, hX, hY] using this
          · have := energy_ok t1 s1 t2 s2 w hT ha hd he (Lib.hid hX) (Lib.hid hY)
            simpa [gT, gS, gE, gF, gOk, gIn, ha, hd, he, hX, hY] using this
      · have := energy_dim2 t1 s1 t2 s2 w hT ha hd he
        simpa [gT, gS, gE, gF, gOk, ha, hd, he] using this
    · have := energy_dim1 t1 s1 t2 s2 w hT ha hd
      simpa [gT, gS, gE, gF, gOk, ha, hd] using this
  · have := energy_err t1 s1 t2 s2 w hT ha
    simpa [gT, gS, gE, gF, ha] using this

theorem q_any (t : Int) (s : ByteArray) (w : World) :
    Calls Tryd.prog 25 #[.int .i64 t, .string s] w fun e w' => e = .returned (.agg #[.int .i64 t, .string s]) ∧ Below w.heap.size w w' := by
  go_enter Tryd.func25, Tryd.ntmps25
  go_wp2
  exact bodyPost_ret (v := .agg #[.int .i64 t, .string s]) (by simp [results, Tryd.results25, go_sem]) rfl ⟨rfl, (Below.refl _ _).alloc (Nat.le_refl _) _⟩
theorem short_yes (t1 : Int) (s1 : ByteArray) (t2 : Int) (s2 : ByteArray) (w : World) (h1 : s1.size ≤ 20) (h2 : s2.size ≤ 20) :
    Calls Tryd.prog 11 #[.agg #[.int .i64 t1, .string s1], .agg #[.int .i64 t2, .string s2]] w fun e w' => e = .returned (.bool true) ∧ Below w.heap.size w w' := by
  have h3 : decide ((s1.size : Int) ≤ 20) = true := by simp; omega
  have h4 : decide ((s2.size : Int) ≤ 20) = true := by simp; omega
  go_enter Tryd.func11, Tryd.ntmps11
  go_wp2
  go_ret
  exact ⟨rfl, ((Below.refl _ _).alloc (Nat.le_refl _) _).alloc (by simp) _⟩
theorem short_no1 (t1 : Int) (s1 : ByteArray) (t2 : Int) (s2 : ByteArray) (w : World) (_hm : s1.size ≤ maxLen) (h1 : ¬ s1.size ≤ 20) :
    Calls Tryd.prog 11 #[.agg #[.int .i64 t1, .string s1], .agg #[.int .i64 t2, .string s2]] w fun e w' => e = .returned (.bool false) ∧ Below w.heap.size w w' := by
  have h3 : decide ((s1.size : Int) ≤ 20) = false := by simp; omega
  unfold maxLen at _hm
  go_enter Tryd.func11, Tryd.ntmps11
  go_wp2
  go_ret
  exact ⟨rfl, ((Below.refl _ _).alloc (Nat.le_refl _) _).alloc (by simp) _⟩
theorem short_no2 (t1 : Int) (s1 : ByteArray) (t2 : Int) (s2 : ByteArray) (w : World) (_hm : s2.size ≤ maxLen) (h1 : s1.size ≤ 20) (h2 : ¬ s2.size ≤ 20) :
    Calls Tryd.prog 11 #[.agg #[.int .i64 t1, .string s1], .agg #[.int .i64 t2, .string s2]] w fun e w' => e = .returned (.bool false) ∧ Below w.heap.size w w' := by
  have h3 : decide ((s1.size : Int) ≤ 20) = true := by simp; omega
  have h4 : decide ((s2.size : Int) ≤ 20) = false := by simp; omega
  unfold maxLen at _hm
  go_enter Tryd.func11, Tryd.ntmps11
  go_wp2
  go_ret
  exact ⟨rfl, ((Below.refl _ _).alloc (Nat.le_refl _) _).alloc (by simp) _⟩
/-- Whether two units are short. -/
def sh (s1 s2 : ByteArray) : Bool := decide (s1.size ≤ 20 ∧ s2.size ≤ 20)
theorem short_any (t1 : Int) (s1 : ByteArray) (t2 : Int) (s2 : ByteArray) (w : World) (h1 : s1.size ≤ maxLen) (h2 : s2.size ≤ maxLen) :
    Calls Tryd.prog 11 #[.agg #[.int .i64 t1, .string s1], .agg #[.int .i64 t2, .string s2]] w fun e w' => e = .returned (.bool (sh s1 s2)) ∧ Below w.heap.size w w' := by
  by_cases h3 : s1.size ≤ 20
  · by_cases h4 : s2.size ≤ 20
    · rw [show sh s1 s2 = true by simp [sh, h3, h4]]; exact short_yes t1 s1 t2 s2 w h3 h4
    · rw [show sh s1 s2 = false by simp [sh, h4]]; exact short_no2 t1 s1 t2 s2 w h2 h3 h4
  · rw [show sh s1 s2 = false by simp [sh, h3]]; exact short_no1 t1 s1 t2 s2 w h1 h3

theorem keep1 {w w1 : World} {p : Addr} {v : Value} (hb : Below w.heap.size w w1) (h : w.cell? p = some v) : w1.cell? p = some v := (hb.cell (World.block_lt_of_cell? _ _ h)).trans h
theorem keep2 {w w1 w2 : World} (hb : Below w1.heap.size w1 w2) (h : Below w.heap.size w w1) : Below w.heap.size w w2 := h.trans (hb.mono h.size)
theorem cellA {w : World} {p : Addr} {v : Value} {o : Obj} (h : w.cell? p = some v) : (w.alloc o).drew.cell? p = some v := keep1 (((Below.refl w.heap.size w).alloc (Nat.le_refl _) o).trans (below_drew _ _)) h
theorem k1 : bD 15 ⟨#[109, 105, 110]⟩ = 3 ∧ bV 15 ⟨#[109, 105, 110]⟩ = 900 ∧ bE 15 ⟨#[109, 105, 110]⟩ = 0 := ⟨by kernel_rfl, by kernel_rfl, by kernel_rfl⟩
theorem k2 : cV 900 ⟨#[115]⟩ 15 ⟨#[109, 105, 110]⟩ = 0 ∧ pE 900 ⟨#[115]⟩ 15 ⟨#[109, 105, 110]⟩ = 0 := ⟨by kernel_rfl, by kernel_rfl⟩
theorem k3 : nT 3 900 = 15 ∧ nS 3 900 = ⟨#[109, 105, 110]⟩ ∧ nE 3 900 = 0 := ⟨by kernel_rfl, by kernel_rfl, by kernel_rfl⟩
theorem k4 : nT 3 901 = 901 ∧ nS 3 901 = ⟨#[115]⟩ ∧ nE 3 901 = 0 := ⟨by kernel_rfl, by kernel_rfl, by kernel_rfl⟩
theorem k5 : dT 300 ⟨#[109, 105, 110]⟩ 300 ⟨#[109, 105, 110]⟩ = 10 ∧ dS 300 ⟨#[109, 105, 110]⟩ 300 ⟨#[109, 105, 110]⟩ = ⟨#[104]⟩ ∧ dE 300 ⟨#[109, 105, 110]⟩ 300 ⟨#[109, 105, 110]⟩ = 0 := ⟨by kernel_rfl, by kernel_rfl, by kernel_rfl⟩
theorem k6 : sV 1 ⟨#[109, 105, 110]⟩ = 6 ∧ sE 1 ⟨#[109, 105, 110]⟩ = 0 := ⟨by kernel_rfl, by kernel_rfl⟩
theorem k7 : sV 5 ⟨#[115]⟩ = 0 ∧ sE 5 ⟨#[115]⟩ = 11 := ⟨by kernel_rfl, by kernel_rfl⟩
theorem k8 : bD 1 ⟨#[109]⟩ = 0 ∧ bV 1 ⟨#[109]⟩ = 0 ∧ bE 1 ⟨#[109]⟩ = 7 := ⟨by kernel_rfl, by kernel_rfl, by kernel_rfl⟩
theorem k9 : cV 1 ⟨#[67]⟩ 1 ⟨#[37]⟩ = 0 ∧ pE 1 ⟨#[67]⟩ 1 ⟨#[37]⟩ = 10 := ⟨by kernel_rfl, by kernel_rfl⟩
theorem k10 : gT 10 ⟨#[87]⟩ 10 ⟨#[115]⟩ = 0 ∧ gS 10 ⟨#[87]⟩ 10 ⟨#[115]⟩ = ⟨#[87, 104]⟩ ∧ gE 10 ⟨#[87]⟩ 10 ⟨#[115]⟩ = 0 := ⟨by kernel_rfl, by kernel_rfl, by kernel_rfl⟩
theorem k11 : gT 15 ⟨#[107, 87]⟩ 200 ⟨#[109, 105, 110]⟩ = 5 ∧ gS 15 ⟨#[107, 87]⟩ 200 ⟨#[109, 105, 110]⟩ = ⟨#[107, 87, 104]⟩ ∧ gE 15 ⟨#[107, 87]⟩ 200 ⟨#[109, 105, 110]⟩ = 0 := ⟨by kernel_rfl, by kernel_rfl, by kernel_rfl⟩
set_option maxRecDepth 100000 in
set_option maxHeartbeats 4000000 in
theorem head_any (w : World) (hT : Tab w) : Calls Tryd.prog 10 #[] w fun e w' => e = .returned (.bool true) ∧ Below w.heap.size w w' := by
  have HT0 := Lib.hid hT
  go_enter Tryd.func10, Tryd.ntmps10
  go_wp2_with fail
  refine (q_any _ _ _).mono ?_
  rintro e w1 ⟨rfl, b1⟩
  have HT1 := Lib.hid (HT0.out.below b1 HT0.out.pos)
  have c1 := Lib.hid b1
  clear b1
  go_wp2_with fail
  refine (base12_any _ _ _ HT1.out).mono ?_
  rintro e w2 ⟨rfl, b2⟩
  rw [k1.1, k1.2.1, k1.2.2]
  have HT2 := Lib.hid (HT1.out.below b2 HT1.out.pos)
  have c2 := Lib.hid b2
  clear b2
  go_wp2_with fail
  refine (q_any _ _ _).mono ?_
  rintro e w3 ⟨rfl, b3⟩
  have HT3 := Lib.hid (HT2.out.below b3 HT2.out.pos)
  have c3 := Lib.hid b3
  clear b3
  go_wp2_with fail
  refine (q_any _ _ _).mono ?_
  rintro e w4 ⟨rfl, b4⟩
  have HT4 := Lib.hid (HT3.out.below b4 HT3.out.pos)
  have c4 := Lib.hid b4
  clear b4
  go_wp2_with fail
  refine (compare_any _ _ _ _ _ HT4.out).mono ?_
  rintro e w5 ⟨rfl, b5⟩
  rw [k2.1, k2.2]
  have HT5 := Lib.hid (HT4.out.below b5 HT4.out.pos)
  have c5 := Lib.hid b5
  clear b5
  go_wp2_with fail
  refine (canon_any _ _ _ HT5.out (by unfold I64; omega)).mono ?_
  rintro e w6 ⟨rfl, b6⟩
  rw [k3.1, k3.2.1, k3.2.2]
  have HT6 := Lib.hid (HT5.out.below b6 HT5.out.pos)
  have c6 := Lib.hid b6
  clear b6
  go_wp2_with fail
  refine (canon_any _ _ _ (HT6.out.alloc _) (by unfold I64; omega)).mono ?_
  rintro e w7 ⟨rfl, b7⟩
  rw [k4.1, k4.2.1, k4.2.2]
  have HT7 := Lib.hid ((HT6.out.alloc _).below b7 (HT6.out.alloc _).pos)
  have Q6 := Lib.hid (two_new b7)
  have c7 := Lib.hid (bl1 b7)
  clear b7
  go_wp2_with fail
  refine (q_any _ _ _).mono ?_
  rintro e w8 ⟨rfl, b8⟩
  have HT8 := Lib.hid ((HT7.out.alloc _).below b8 (HT7.out.alloc _).pos)
  have Q7 := Lib.hid (two_new b8)
  have c8 := Lib.hid (bl1 b8)
  clear b8
  go_wp2_with fail
  refine (q_any _ _ _).mono ?_
  rintro e w9 ⟨rfl, b9⟩
  have HT9 := Lib.hid (HT8.out.below b9 HT8.out.pos)
  have c9 := Lib.hid b9
  clear b9
  go_wp2_with fail
  refine (add_any _ _ _ _ _ HT9.out).mono ?_
  rintro e w10 ⟨rfl, b10⟩
  rw [k5.1, k5.2.1, k5.2.2]
  have HT10 := Lib.hid (HT9.out.below b10 HT9.out.pos)
  have c10 := Lib.hid b10
  clear b10
  go_wp2_with fail
  refine (q_any _ _ _).mono ?_
  rintro e w11 ⟨rfl, b11⟩
  have HT11 := Lib.hid ((HT10.out.alloc _).below b11 (HT10.out.alloc _).pos)
  have Q10 := Lib.hid (two_new b11)
  have c11 := Lib.hid (bl1 b11)
  clear b11
  go_wp2_with fail
  refine (seconds_any _ _ _ HT11.out).mono ?_
  rintro e w12 ⟨rfl, b12⟩
  rw [k6.1, k6.2]
  have HT12 := Lib.hid (HT11.out.below b12 HT11.out.pos)
  have c12 := Lib.hid b12
  clear b12
  go_wp2_with fail
  refine (q_any _ _ _).mono ?_
  rintro e w13 ⟨rfl, b13⟩
  have HT13 := Lib.hid (HT12.out.below b13 HT12.out.pos)
  have c13 := Lib.hid b13
  clear b13
  go_wp2_with fail
  refine (seconds_any _ _ _ HT13.out).mono ?_
  rintro e w14 ⟨rfl, b14⟩
  rw [k7.1, k7.2]
  have HT14 := Lib.hid (HT13.out.below b14 HT13.out.pos)
  have c14 := Lib.hid b14
  clear b14
  go_wp2_with fail
  refine (q_any _ _ _).mono ?_
  rintro e w15 ⟨rfl, b15⟩
  have HT15 := Lib.hid (HT14.out.below b15 HT14.out.pos)
  have c15 := Lib.hid b15
  clear b15
  go_wp2_with fail
  refine (base12_any _ _ _ HT15.out).mono ?_
  rintro e w16 ⟨rfl, b16⟩
  rw [k8.1, k8.2.1, k8.2.2]
  have HT16 := Lib.hid (HT15.out.below b16 HT15.out.pos)
  have c16 := Lib.hid b16
  clear b16
  go_wp2_with fail
  refine (q_any _ _ _).mono ?_
  rintro e w17 ⟨rfl, b17⟩
  have HT17 := Lib.hid (HT16.out.below b17 HT16.out.pos)
  have c17 := Lib.hid b17
  clear b17
  go_wp2_with fail
  refine (q_any _ _ _).mono ?_
  rintro e w18 ⟨rfl, b18⟩
  have HT18 := Lib.hid (HT17.out.below b18 HT17.out.pos)
  have c18 := Lib.hid b18
  clear b18
  go_wp2_with fail
  refine (compare_any _ _ _ _ _ HT18.out).mono ?_
  rintro e w19 ⟨rfl, b19⟩
  rw [k9.1, k9.2]
  have HT19 := Lib.hid (HT18.out.below b19 HT18.out.pos)
  have c19 := Lib.hid b19
  clear b19
  go_wp2_with fail
  refine (q_any _ _ _).mono ?_
  rintro e w20 ⟨rfl, b20⟩
  have HT20 := Lib.hid (HT19.out.below b20 HT19.out.pos)
  have c20 := Lib.hid b20
  clear b20
  go_wp2_with fail
  refine (q_any _ _ _).mono ?_
  rintro e w21 ⟨rfl, b21⟩
  have HT21 := Lib.hid (HT20.out.below b21 HT20.out.pos)
  have c21 := Lib.hid b21
  clear b21
  go_wp2_with fail
  refine (energy_any _ _ _ _ _ HT21.out).mono ?_
  rintro e w22 ⟨rfl, b22⟩
  rw [k10.1, k10.2.1, k10.2.2]
  have HT22 := Lib.hid (HT21.out.below b22 HT21.out.pos)
  have c22 := Lib.hid b22
  clear b22
  go_wp2_with fail
  refine (q_any _ _ _).mono ?_
  rintro e w23 ⟨rfl, b23⟩
  have HT23 := Lib.hid ((HT22.out.alloc _).below b23 (HT22.out.alloc _).pos)
  have Q22 := Lib.hid (two_new b23)
  have c23 := Lib.hid (bl1 b23)
  clear b23
  go_wp2_with fail
  refine (q_any _ _ _).mono ?_
  rintro e w24 ⟨rfl, b24⟩
  have HT24 := Lib.hid (HT23.out.below b24 HT23.out.pos)
  have c24 := Lib.hid b24
  clear b24
  go_wp2_with fail
  refine (energy_any _ _ _ _ _ HT24.out).mono ?_
  rintro e w25 ⟨rfl, b25⟩
  rw [k11.1, k11.2.1, k11.2.2]
  have HT25 := Lib.hid (HT24.out.below b25 HT24.out.pos)
  have c25 := Lib.hid b25
  clear b25
  go_wp2_with fail
  have E25 := Lib.hid (Below.refl w25.heap.size w25)
  have E24 := Lib.hid (c25.out.trans (E25.out.mono c25.out.size))
  have E23 := Lib.hid (c24.out.trans (E24.out.mono c24.out.size))
  have E22 := Lib.hid (c23.out.trans (E23.out.mono c23.out.size))
  have E21 := Lib.hid (c22.out.trans (E22.out.mono c22.out.size))
  have E20 := Lib.hid (c21.out.trans (E21.out.mono c21.out.size))
  have E19 := Lib.hid (c20.out.trans (E20.out.mono c20.out.size))
  have E18 := Lib.hid (c19.out.trans (E19.out.mono c19.out.size))
  have E17 := Lib.hid (c18.out.trans (E18.out.mono c18.out.size))
  have E16 := Lib.hid (c17.out.trans (E17.out.mono c17.out.size))
  have E15 := Lib.hid (c16.out.trans (E16.out.mono c16.out.size))
  have E14 := Lib.hid (c15.out.trans (E15.out.mono c15.out.size))
  have E13 := Lib.hid (c14.out.trans (E14.out.mono c14.out.size))
  have E12 := Lib.hid (c13.out.trans (E13.out.mono c13.out.size))
  have E11 := Lib.hid (c12.out.trans (E12.out.mono c12.out.size))
  have E10 := Lib.hid (c11.out.trans (E11.out.mono c11.out.size))
  have E9 := Lib.hid (c10.out.trans (E10.out.mono c10.out.size))
  have E8 := Lib.hid (c9.out.trans (E9.out.mono c9.out.size))
  have E7 := Lib.hid (c8.out.trans (E8.out.mono c8.out.size))
  have E6 := Lib.hid (c7.out.trans (E7.out.mono c7.out.size))
  have E5 := Lib.hid (c6.out.trans (E6.out.mono c6.out.size))
  have E4 := Lib.hid (c5.out.trans (E5.out.mono c5.out.size))
  have E3 := Lib.hid (c4.out.trans (E4.out.mono c4.out.size))
  have E2 := Lib.hid (c3.out.trans (E3.out.mono c3.out.size))
  have E1 := Lib.hid (c2.out.trans (E2.out.mono c2.out.size))
  have E0 := Lib.hid (c1.out.trans (E1.out.mono c1.out.size))
  have R6 := two_old2 (n := w6.heap.size) E7.out (World.block_lt_of_cell? _ _ Q6.out.1.1) Q6.out.1.1 Q6.out.2.1 Q6.out.1.2 Q6.out.2.2
  obtain ⟨⟨x6, f6⟩, ⟨y6, g6⟩⟩ := R6
  have z6 := show w6.heap.size < w25.heap.size from World.block_lt_of_cell? _ _ x6
  have R7 := two_old2 (n := w7.heap.size) E8.out (World.block_lt_of_cell? _ _ Q7.out.1.1) Q7.out.1.1 Q7.out.2.1 Q7.out.1.2 Q7.out.2.2
  obtain ⟨⟨x7, f7⟩, ⟨y7, g7⟩⟩ := R7
  have z7 := show w7.heap.size < w25.heap.size from World.block_lt_of_cell? _ _ x7
  have R10 := two_old2 (n := w10.heap.size) E11.out (World.block_lt_of_cell? _ _ Q10.out.1.1) Q10.out.1.1 Q10.out.2.1 Q10.out.1.2 Q10.out.2.2
  obtain ⟨⟨x10, f10⟩, ⟨y10, g10⟩⟩ := R10
  have z10 := show w10.heap.size < w25.heap.size from World.block_lt_of_cell? _ _ x10
  have R22 := two_old2 (n := w22.heap.size) E23.out (World.block_lt_of_cell? _ _ Q22.out.1.1) Q22.out.1.1 Q22.out.2.1 Q22.out.1.2 Q22.out.2.2
  obtain ⟨⟨x22, f22⟩, ⟨y22, g22⟩⟩ := R22
  have z22 := show w22.heap.size < w25.heap.size from World.block_lt_of_cell? _ _ x22
  clear c1 c2 c3 c4 c5 c6 c7 c8 c9 c10 c11 c12 c13 c14 c15 c16 c17 c18 c19 c20 c21 c22 c23 c24 c25 E1 E2 E3 E4 E5 E6 E7 E8 E9 E10 E11 E12 E13 E14 E15 E16 E17 E18 E19 E20 E21 E22 E23 E24 E25 Q6 Q7 Q10 Q22 HT0 HT1 HT2 HT3 HT4 HT5 HT6 HT7 HT8 HT9 HT10 HT11 HT12 HT13 HT14 HT15 HT16 HT17 HT18 HT19 HT20 HT21 HT22 HT23 HT24 hT
  have HE := E0
  clear E0
  have hS : (fun w' => Below w.heap.size w w' ∧ w'.cell? ⟨w6.heap.size, 0, none⟩ = some (.int .i64 15) ∧ w'.cell? ⟨w6.heap.size, 1, none⟩ = some (.string ⟨#[109, 105, 110]⟩) ∧ w'.cell? ⟨w7.heap.size, 0, none⟩ = some (.int .i64 901) ∧ w'.cell? ⟨w7.heap.size, 1, none⟩ = some (.string ⟨#[115]⟩) ∧ w'.cell? ⟨w10.heap.size, 0, none⟩ = some (.int .i64 10) ∧ w'.cell? ⟨w10.heap.size, 1, none⟩ = some (.string ⟨#[104]⟩) ∧ w'.cell? ⟨w22.heap.size, 0, none⟩ = some (.int .i64 0) ∧ w'.cell? ⟨w22.heap.size, 1, none⟩ = some (.string ⟨#[87, 104]⟩) ∧ w'.cell? ⟨w25.heap.size, 0, none⟩ = some (.int .i64 5) ∧ w'.cell? ⟨w25.heap.size, 1, none⟩ = some (.string ⟨#[107, 87, 104]⟩)) ((w25.alloc (Obj.cells #[Value.int IntKind.i64 5, Value.string { data := #[107, 87, 104] }] 23)).drew) :=
    ⟨(HE.out.alloc HE.out.size _).trans (below_drew _ _), cellA x6, cellA y6, cellA x7, cellA y7, cellA x10, cellA y10, cellA x22, cellA y22, cell_new' _ _ _ _ rfl 0, cell_new' _ _ _ _ rfl 1⟩
  have hz25 := hS.1
  go_region_held3 (fun w' => Below w.heap.size w w' ∧ w'.cell? ⟨w6.heap.size, 0, none⟩ = some (.int .i64 15) ∧ w'.cell? ⟨w6.heap.size, 1, none⟩ = some (.string ⟨#[109, 105, 110]⟩) ∧ w'.cell? ⟨w7.heap.size, 0, none⟩ = some (.int .i64 901) ∧ w'.cell? ⟨w7.heap.size, 1, none⟩ = some (.string ⟨#[115]⟩) ∧ w'.cell? ⟨w10.heap.size, 0, none⟩ = some (.int .i64 10) ∧ w'.cell? ⟨w10.heap.size, 1, none⟩ = some (.string ⟨#[104]⟩) ∧ w'.cell? ⟨w22.heap.size, 0, none⟩ = some (.int .i64 0) ∧ w'.cell? ⟨w22.heap.size, 1, none⟩ = some (.string ⟨#[87, 104]⟩) ∧ w'.cell? ⟨w25.heap.size, 0, none⟩ = some (.int .i64 5) ∧ w'.cell? ⟨w25.heap.size, 1, none⟩ = some (.string ⟨#[107, 87, 104]⟩))
    (first | go_keep | (go_split_ands; refine ⟨?_, ?_, ?_, ?_, ?_, ?_, ?_, ?_, ?_, ?_, ?_⟩ <;> first | assumption | exact keep1 hbq (by assumption) | exact keep2 hbq (by assumption) | exact Below.trans (by assumption) (below_drew _ _) | go_keep))
    (first | (go_at_call 25; refine (q_any _ _ _).mono ?_; rintro e w' ⟨rfl, hbq⟩))
  go_wp2_with fail
  have hS2 : (fun w' => Below w.heap.size w w' ∧ w'.cell? ⟨w6.heap.size, 0, none⟩ = some (.int .i64 15) ∧ w'.cell? ⟨w6.heap.size, 1, none⟩ = some (.string ⟨#[109, 105, 110]⟩) ∧ w'.cell? ⟨w7.heap.size, 0, none⟩ = some (.int .i64 901) ∧ w'.cell? ⟨w7.heap.size, 1, none⟩ = some (.string ⟨#[115]⟩) ∧ w'.cell? ⟨w10.heap.size, 0, none⟩ = some (.int .i64 10) ∧ w'.cell? ⟨w10.heap.size, 1, none⟩ = some (.string ⟨#[104]⟩) ∧ w'.cell? ⟨w22.heap.size, 0, none⟩ = some (.int .i64 0) ∧ w'.cell? ⟨w22.heap.size, 1, none⟩ = some (.string ⟨#[87, 104]⟩) ∧ w'.cell? ⟨w25.heap.size, 0, none⟩ = some (.int .i64 5) ∧ w'.cell? ⟨w25.heap.size, 1, none⟩ = some (.string ⟨#[107, 87, 104]⟩)) w' := by assumption
  obtain ⟨s0, s1, s2, s3, s4, s5, s6, s7, s8, s9, s10⟩ := hS2
  have s0' := s0.trans (below_drew _ _)
  clear hS
  go_region_held3 (fun w' => Below w.heap.size w w' ∧ w'.cell? ⟨w6.heap.size, 0, none⟩ = some (.int .i64 15) ∧ w'.cell? ⟨w6.heap.size, 1, none⟩ = some (.string ⟨#[109, 105, 110]⟩) ∧ w'.cell? ⟨w7.heap.size, 0, none⟩ = some (.int .i64 901) ∧ w'.cell? ⟨w7.heap.size, 1, none⟩ = some (.string ⟨#[115]⟩) ∧ w'.cell? ⟨w10.heap.size, 0, none⟩ = some (.int .i64 10) ∧ w'.cell? ⟨w10.heap.size, 1, none⟩ = some (.string ⟨#[104]⟩) ∧ w'.cell? ⟨w22.heap.size, 0, none⟩ = some (.int .i64 0) ∧ w'.cell? ⟨w22.heap.size, 1, none⟩ = some (.string ⟨#[87, 104]⟩) ∧ w'.cell? ⟨w25.heap.size, 0, none⟩ = some (.int .i64 5) ∧ w'.cell? ⟨w25.heap.size, 1, none⟩ = some (.string ⟨#[107, 87, 104]⟩))
    (first | go_keep | (go_split_ands; refine ⟨?_, ?_, ?_, ?_, ?_, ?_, ?_, ?_, ?_, ?_, ?_⟩ <;> first | assumption | exact keep1 hbq (by assumption) | exact keep2 hbq (by assumption) | exact Below.trans (by assumption) (below_drew _ _) | go_keep))
    (first | (go_at_call 25; refine (q_any _ _ _).mono ?_; rintro e w' ⟨rfl, hbq⟩))
  go_wp2_with fail
  have hS9 : (fun w' => Below w.heap.size w w' ∧ w'.cell? ⟨w6.heap.size, 0, none⟩ = some (.int .i64 15) ∧ w'.cell? ⟨w6.heap.size, 1, none⟩ = some (.string ⟨#[109, 105, 110]⟩) ∧ w'.cell? ⟨w7.heap.size, 0, none⟩ = some (.int .i64 901) ∧ w'.cell? ⟨w7.heap.size, 1, none⟩ = some (.string ⟨#[115]⟩) ∧ w'.cell? ⟨w10.heap.size, 0, none⟩ = some (.int .i64 10) ∧ w'.cell? ⟨w10.heap.size, 1, none⟩ = some (.string ⟨#[104]⟩) ∧ w'.cell? ⟨w22.heap.size, 0, none⟩ = some (.int .i64 0) ∧ w'.cell? ⟨w22.heap.size, 1, none⟩ = some (.string ⟨#[87, 104]⟩) ∧ w'.cell? ⟨w25.heap.size, 0, none⟩ = some (.int .i64 5) ∧ w'.cell? ⟨w25.heap.size, 1, none⟩ = some (.string ⟨#[107, 87, 104]⟩)) w' := by assumption
  go_ret
  exact ⟨rfl, hS9.1⟩
end Go.Proofs.YtbmmmhjgidffpaaDoor
