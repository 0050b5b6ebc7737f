/- The walk of 'UnitsCanonical'. -/
import Derived.Test.YtbmmmhjgidffpaaDoorO
namespace Go.Proofs.YtbmmmhjgidffpaaDoor
open Go.RowKit

theorem unit26_b (s : ByteArray) (w : World) : Calls Tryd.prog 26 #[.string s] w fun e w' => e = .returned (.tuple #[.int .i64 (tD (ux s)), .int .i64 (tF (ux s))]) ∧ Below w.heap.size w w' :=
  (unit26_any s w).mono fun _ _ ⟨h, h'⟩ => ⟨h, h' ▸ Below.refl _ _⟩
/-- What 'All' gives, said of cells. -/
def ListPost (w : World) (e : Ending) (w' : World) : Prop := ∃ g, e = .returned (.slice (some ⟨g, 0, none⟩) 11 11) ∧ Hid (∀ i, i < 11 → w'.cell? ⟨g, i, none⟩ = some (.string (tN (rk i)))) ∧ Below w.heap.size w w'
theorem all_list (w : World) : Calls Tryd.prog 27 #[] w (ListPost w) :=
  (all_any w).mono fun e w' ⟨h, h'⟩ => ⟨w.heap.size, h, by subst h'; exact fun i hi => list_cell w _ (Below.refl _ _) i hi, h' ▸ (Below.refl _ _).alloc (Nat.le_refl _) _⟩
theorem bE_zero {t : Int} {s : ByteArray} (h : bE t s = 0) : ux s < 11 ∧ bD t s = tD (ux s) := by
  have hd : bD t s = tD (ux s) := by unfold bD; rw [if_pos h]
  unfold bE at h
  split at h
  · exact ⟨‹_›, hd⟩
  · omega
theorem bx_tD (k : Nat) (h : k < 11) : bx (tD k) < 11 := (show ∀ k : Nat, k < 11 → bx (tD k) < 11 by decide) k h
theorem nE_in {d v : Int} (h : bx d < 11) : nE d v = 0 ∨ nE d v = 11 := by
  unfold nE; rw [if_pos h]; split <;> simp
theorem canon_ux {d v : Int} (h : nE d v = 0) : ux (nS d v) = cK d v := by
  have hS : nS d v = tN (cK d v) := by unfold nS; rw [if_pos h]
  rw [hS, ux_tN _ (cK_lt (nE_zero h).1)]
theorem canon_inj {d v z : Int} (h : nE d v = 0) (g : nE d z = 0) (ht : nT d z = nT d v) (hs : nS d z = nS d v) : z = v := by
  rw [← (canon_base h).2.2, ← (canon_base g).2.2, ht, hs]
theorem order_tab (i k : Nat) (hi : i < 11) (hk : k < 11) (hd : tD i = tD k) (hf : tF k < tF i) : i < k :=
  (show ∀ i : Nat, i < 11 → ∀ k : Nat, k < 11 → tD i = tD k → tF k < tF i → i < k by decide) i hi k hk hd hf
/-- No unit with a greater factor divides the value. -/
theorem loop_no {d v : Int} (hb : bx d < 11) (k : Nat) (_hk : k < 11) :
    (tD (rk k) == d) = false ∨ ((tD (rk k) == d) = true ∧ decide (tF (cK d v) < tF (rk k)) = false) ∨ ((tD (rk k) == d) = true ∧ decide (tF (cK d v) < tF (rk k)) = true ∧ (v != 0) = false) ∨
    ((tD (rk k) == d) = true ∧ decide (tF (cK d v) < tF (rk k)) = true ∧ (v != 0) = true ∧ (v.tmod (tF (rk k)) == 0) = false) := by
  by_cases h1 : tD (rk k) = d
  · by_cases h2 : tF (cK d v) < tF (rk k)
    · by_cases h3 : v = 0
      · exact .inr (.inr (.inl ⟨by simpa using h1, by simpa using h2, by simpa using h3⟩))
      · refine .inr (.inr (.inr ⟨by simpa using h1, by simpa using h2, by simpa using h3, ?_⟩))
        have hc : cK d v = gx d v := by unfold cK; rw [if_neg h3]
        rw [hc] at h2
        have hg := gx_le (v := v) hb
        have hs := gx_spec hg
        have hlt := order_tab (rk k) (gx d v) (rk_lt k) hg (h1.trans hs.1.symm) h2
        unfold gx at hlt
        cases hf : (List.range 11).find? fun k => tD k == d && v.tmod (tF k) == 0 with
        | none =>
          have := List.find?_eq_none.1 hf (rk k) (by simpa using rk_lt k)
          simpa [h1] using this
        | some j =>
          rw [hf] at hlt
          have := (List.find?_range_eq_some.1 hf).2.2 (rk k) (by simpa using hlt)
          simpa [h1] using this
    · exact .inr (.inl ⟨by simpa using h1, by simpa using h2⟩)
  · exact .inl (by simpa using h1)
theorem cmp_zero {x y : Int} (h : x ≠ y) : (cmp x y == 0) = false := by
  rcases cmp_cases x y with ⟨_, a, _⟩ | ⟨a, _, _⟩ | ⟨_, a, _⟩
  · rw [a]; rfl
  · exact absurd a h
  · rw [a]; rfl
theorem str_ne {a b : ByteArray} (h : a ≠ b) : (a.toList == b.toList) = false := by
  rw [beq_eq_false_iff_ne, ByteArray.toList_eq, ByteArray.toList_eq]
  exact fun e => h (Go.WideShapes.bytes_inj e)

set_option maxRecDepth 100000 in
set_option maxHeartbeats 8000000 in
theorem canonical_walk (t1 : Int) (s1 : ByteArray) (t2 : Int) (s2 : ByteArray) (w : World) (hT : Tab w) (m1 : s1.size ≤ maxLen) (m2 : s2.size ≤ maxLen) :
    Calls Tryd.prog 6 #[.agg #[.int .i64 t1, .string s1], .agg #[.int .i64 t2, .string s2]] w fun e w' => e = .returned (.bool true) ∧ Below w.heap.size w w' := by
  have HT0 := Lib.hid ((hT.alloc (.cells #[.int .i64 t1, .string s1] 23)).alloc (.cells #[.int .i64 t2, .string s2] 23))
  have Kx_0 := Lib.hid ((QAt.new w t1 s1 23 w.heap.size rfl).alloc (.cells #[.int .i64 t2, .string s2] 23))
  have Ky_0 := Lib.hid (QAt.new (w.alloc (.cells #[.int .i64 t1, .string s1] 23)) t2 s2 23 (w.heap.size + 1) (by simp))
  have HB0 := Lib.hid (below_two w (.cells #[.int .i64 t1, .string s1] 23) (.cells #[.int .i64 t2, .string s2] 23))
  have hv1 := bV_bd t1 s1
  have hv2 := bV_bd t2 s2
  obtain ⟨hv11, hv12⟩ := hv1
  obtain ⟨hv21, hv22⟩ := hv2
  have HI1 := Lib.hid (show I64 (bV t1 s1) by unfold I64; omega)
  have HI2 := Lib.hid (show I64 (bV t2 s2) by unfold I64; omega)
  go_enter Tryd.func6, Tryd.ntmps6
  go_wp2_with fail
  refine (head_any _ HT0.out).mono ?_
  rintro e u1 ⟨rfl, b1⟩
  have Kx_1 := Lib.hid (Kx_0.out.step b1)
  have Ky_1 := Lib.hid (Ky_0.out.step b1)
  clear Kx_0 Ky_0
  have HT1 := Lib.hid (HT0.out.below b1 HT0.out.pos)
  have HB1 := Lib.hid (keep2 b1 HB0.out)
  clear b1 HT0 HB0
  obtain ⟨⟨xx, yx⟩, zx⟩ := Kx_1.out.lay
  obtain ⟨⟨xy, yy⟩, zy⟩ := Ky_1.out.lay
  go_wp2_with fail
  refine (short_any t1 s1 t2 s2 _ m1 m2).mono ?_
  rintro e u2 ⟨rfl, b2⟩
  clear xx yx zx xy yy zy
  have Kx_2 := Lib.hid (Kx_1.out.step b2)
  have Ky_2 := Lib.hid (Ky_1.out.step b2)
  clear Kx_1 Ky_1
  have HT2 := Lib.hid (HT1.out.below b2 HT1.out.pos)
  have HB2 := Lib.hid (keep2 b2 HB1.out)
  clear b2 HT1 HB1
  obtain ⟨⟨xx, yx⟩, zx⟩ := Kx_2.out.lay
  obtain ⟨⟨xy, yy⟩, zy⟩ := Ky_2.out.lay
  cases h1 : sh s1 s2
  · go_wp2_with fail
    go_ret
    exact ⟨rfl, HB2.out⟩
  · go_wp2_with fail
    refine (base12_any t1 s1 _ HT2.out).mono ?_
    rintro e u3 ⟨rfl, b3⟩
    clear xx yx zx xy yy zy
    have Kx_3 := Lib.hid (Kx_2.out.step b3)
    have Ky_3 := Lib.hid (Ky_2.out.step b3)
    clear Kx_2 Ky_2
    have HT3 := Lib.hid (HT2.out.below b3 HT2.out.pos)
    have HB3 := Lib.hid (keep2 b3 HB2.out)
    clear b3 HT2 HB2
    obtain ⟨⟨xx, yx⟩, zx⟩ := Kx_3.out.lay
    obtain ⟨⟨xy, yy⟩, zy⟩ := Ky_3.out.lay
    by_cases he : bE t1 s1 = 0
    · have hz := bE_zero he
      have HBX := Lib.hid (show bx (bD t1 s1) < 11 by rw [hz.2]; exact bx_tD _ hz.1)
      have HE := Lib.hid he
      rw [he]
      clear he hz
      go_wp2_with fail
      refine (canon_any (bD t1 s1) (bV t1 s1) _ HT3.out HI1.out).mono ?_
      rintro e u4 ⟨rfl, b4⟩
      clear xx yx zx xy yy zy
      have Kx_4 := Lib.hid (Kx_3.out.step b4)
      have Ky_4 := Lib.hid (Ky_3.out.step b4)
      clear Kx_3 Ky_3
      have HT4 := Lib.hid (HT3.out.below b4 HT3.out.pos)
      have HB4 := Lib.hid (keep2 b4 HB3.out)
      clear b4 HT3 HB3
      obtain ⟨⟨xx, yx⟩, zx⟩ := Kx_4.out.lay
      obtain ⟨⟨xy, yy⟩, zy⟩ := Ky_4.out.lay
      by_cases hf : nE (bD t1 s1) (bV t1 s1) = 0
      · have HF := Lib.hid hf
        have HC := Lib.hid (canon_base hf)
        rw [hf]
        clear hf
        go_wp2_with fail
        refine (base12_any (nT (bD t1 s1) (bV t1 s1)) (nS (bD t1 s1) (bV t1 s1)) _ (HT4.out.alloc _)).mono ?_
        rintro e u5 ⟨rfl, b5⟩
        have Kc_5 := Lib.hid (QAt.made b5)
        have b5 := bl1 b5
        clear xx yx zx xy yy zy
        have Kx_5 := Lib.hid (Kx_4.out.step b5)
        have Ky_5 := Lib.hid (Ky_4.out.step b5)
        clear Kx_4 Ky_4
        have HT5 := Lib.hid (HT4.out.below b5 HT4.out.pos)
        have HB5 := Lib.hid (keep2 b5 HB4.out)
        clear b5 HT4 HB4
        rw [HC.out.1, HC.out.2.1, HC.out.2.2]
        obtain ⟨⟨xx, yx⟩, zx⟩ := Kx_5.out.lay
        obtain ⟨⟨xy, yy⟩, zy⟩ := Ky_5.out.lay
        obtain ⟨⟨xc, yc⟩, zc⟩ := Kc_5.out.lay
        go_wp2_with fail
        refine (canon_any (bD t1 s1) (bV t1 s1) _ HT5.out HI1.out).mono ?_
        rintro e u6 ⟨rfl, b6⟩
        clear xx yx zx xy yy zy xc yc zc
        have Kx_6 := Lib.hid (Kx_5.out.step b6)
        have Ky_6 := Lib.hid (Ky_5.out.step b6)
        have Kc_6 := Lib.hid (Kc_5.out.step b6)
        clear Kx_5 Ky_5 Kc_5
        have HT6 := Lib.hid (HT5.out.below b6 HT5.out.pos)
        have HB6 := Lib.hid (keep2 b6 HB5.out)
        clear b6 HT5 HB5
        rw [HF.out]
        obtain ⟨⟨xx, yx⟩, zx⟩ := Kx_6.out.lay
        obtain ⟨⟨xy, yy⟩, zy⟩ := Ky_6.out.lay
        obtain ⟨⟨xc, yc⟩, zc⟩ := Kc_6.out.lay
        go_wp2_with fail
        refine (unit26_b (nS (bD t1 s1) (bV t1 s1)) _).mono ?_
        rintro e u7 ⟨rfl, b7⟩
        have Kg_7 := Lib.hid (QAt.made b7)
        have b7 := bl1 b7
        clear xx yx zx xy yy zy xc yc zc
        have Kx_7 := Lib.hid (Kx_6.out.step b7)
        have Ky_7 := Lib.hid (Ky_6.out.step b7)
        have Kc_7 := Lib.hid (Kc_6.out.step b7)
        clear Kx_6 Ky_6 Kc_6
        have HT7 := Lib.hid (HT6.out.below b7 HT6.out.pos)
        have HB7 := Lib.hid (keep2 b7 HB6.out)
        clear b7 HT6 HB6
        rw [canon_ux HF.out]
        obtain ⟨⟨xx, yx⟩, zx⟩ := Kx_7.out.lay
        obtain ⟨⟨xy, yy⟩, zy⟩ := Ky_7.out.lay
        obtain ⟨⟨xc, yc⟩, zc⟩ := Kc_7.out.lay
        obtain ⟨⟨xg, yg⟩, zg⟩ := Kg_7.out.lay
        go_wp2_with fail
        refine (all_list _).mono ?_
        rintro e u8 ⟨g, rfl, HL, b8⟩
        clear xx yx zx xy yy zy xc yc zc xg yg zg
        have Kx_8 := Lib.hid (Kx_7.out.step b8)
        have Ky_8 := Lib.hid (Ky_7.out.step b8)
        have Kc_8 := Lib.hid (Kc_7.out.step b8)
        have Kg_8 := Lib.hid (Kg_7.out.step b8)
        clear Kx_7 Ky_7 Kc_7 Kg_7
        have HT8 := Lib.hid (HT7.out.below b8 HT7.out.pos)
        have HB8 := Lib.hid (keep2 b8 HB7.out)
        clear b8 HT7 HB7
        obtain ⟨⟨xx, yx⟩, zx⟩ := Kx_8.out.lay
        obtain ⟨⟨xy, yy⟩, zy⟩ := Ky_8.out.lay
        obtain ⟨⟨xc, yc⟩, zc⟩ := Kc_8.out.lay
        obtain ⟨⟨xg, yg⟩, zg⟩ := Kg_8.out.lay
        go_wp2_with fail
        go_loop [19] (fun i => ∃ k : Nat, k ≤ 11 ∧ i = .int .i64 k) (fun i => 11 - (intOf i).toNat)
        case atStart => exact ⟨0, by omega, rfl⟩
        case round =>
          obtain ⟨k, hk, rfl⟩ := hrel
          by_cases hlt : k < 11
          · have hcell := HL.out k hlt
            have hu := Lib.hid (ux_tN (rk k) (rk_lt k))
            have hF := tF_pos (rk k) (rk_lt k)
            obtain ⟨hF1, hF2⟩ := hF
            have hn := loop_no (v := bV t1 s1) HBX.out k hlt
            rcases hn with q1 | ⟨q1, q2⟩ | ⟨q1, q2, q3⟩ | ⟨q1, q2, q3, q4⟩
            all_goals
              go_wp2_with (go_at_call 26; go_must (refine (unit26_any (tN (rk k)) _).mono ?_); rintro e w' ⟨rfl, rfl⟩; rw [hu.out])
              go_round
              case rel => exact ⟨k + 1, by omega, by go_num⟩
              case measure => simp [intOf]; omega
          · go_wp2_with fail
            refine (base12_any t2 s2 _ HT8.out).mono ?_
            rintro e u9 ⟨rfl, b9⟩
            clear xx yx zx xy yy zy xc yc zc xg yg zg
            have Kx_9 := Lib.hid (Kx_8.out.step b9)
            have Ky_9 := Lib.hid (Ky_8.out.step b9)
            have Kc_9 := Lib.hid (Kc_8.out.step b9)
            have Kg_9 := Lib.hid (Kg_8.out.step b9)
            clear Kx_8 Ky_8 Kc_8 Kg_8
            have HT9 := Lib.hid (HT8.out.below b9 HT8.out.pos)
            have HB9 := Lib.hid (keep2 b9 HB8.out)
            clear b9 HT8 HB8
            obtain ⟨⟨xx, yx⟩, zx⟩ := Kx_9.out.lay
            obtain ⟨⟨xy, yy⟩, zy⟩ := Ky_9.out.lay
            obtain ⟨⟨xc, yc⟩, zc⟩ := Kc_9.out.lay
            obtain ⟨⟨xg, yg⟩, zg⟩ := Kg_9.out.lay
            by_cases ho : bE t2 s2 = 0
            · have HO := Lib.hid ho
              rw [ho]
              clear ho
              by_cases hd : bD t2 s2 = bD t1 s1
              · have HPE := Lib.hid (pE_zero.2 ⟨HE.out, HO.out, hd.symm⟩)
                rw [hd]
                clear hd
                go_wp2_with fail
                refine (canon_any (bD t1 s1) (bV t2 s2) _ HT9.out HI2.out).mono ?_
                rintro e u10 ⟨rfl, b10⟩
                clear xx yx zx xy yy zy xc yc zc xg yg zg
                have Kx_10 := Lib.hid (Kx_9.out.step b10)
                have Ky_10 := Lib.hid (Ky_9.out.step b10)
                have Kc_10 := Lib.hid (Kc_9.out.step b10)
                have Kg_10 := Lib.hid (Kg_9.out.step b10)
                clear Kx_9 Ky_9 Kc_9 Kg_9
                have HT10 := Lib.hid (HT9.out.below b10 HT9.out.pos)
                have HB10 := Lib.hid (keep2 b10 HB9.out)
                clear b10 HT9 HB9
                obtain ⟨⟨xx, yx⟩, zx⟩ := Kx_10.out.lay
                obtain ⟨⟨xy, yy⟩, zy⟩ := Ky_10.out.lay
                obtain ⟨⟨xc, yc⟩, zc⟩ := Kc_10.out.lay
                obtain ⟨⟨xg, yg⟩, zg⟩ := Kg_10.out.lay
                go_wp2_with fail
                refine (compare_any t1 s1 t2 s2 _ (HT10.out.alloc _)).mono ?_
                rintro e u11 ⟨rfl, b11⟩
                have Kb_11 := Lib.hid (QAt.made b11)
                have b11 := bl1 b11
                clear xx yx zx xy yy zy xc yc zc xg yg zg
                have Kx_11 := Lib.hid (Kx_10.out.step b11)
                have Ky_11 := Lib.hid (Ky_10.out.step b11)
                have Kc_11 := Lib.hid (Kc_10.out.step b11)
                have Kg_11 := Lib.hid (Kg_10.out.step b11)
                clear Kx_10 Ky_10 Kc_10 Kg_10
                have HT11 := Lib.hid (HT10.out.below b11 HT10.out.pos)
                have HB11 := Lib.hid (keep2 b11 HB10.out)
                clear b11 HT10 HB10
                rw [HPE.out, cV_ok HPE.out]
                obtain ⟨⟨xx, yx⟩, zx⟩ := Kx_11.out.lay
                obtain ⟨⟨xy, yy⟩, zy⟩ := Ky_11.out.lay
                obtain ⟨⟨xc, yc⟩, zc⟩ := Kc_11.out.lay
                obtain ⟨⟨xg, yg⟩, zg⟩ := Kg_11.out.lay
                obtain ⟨⟨xb, yb⟩, zb⟩ := Kb_11.out.lay
                by_cases hp : nE (bD t1 s1) (bV t2 s2) = 0
                · have q1 : (nE (bD t1 s1) (bV t2 s2) != 0) = false := by simpa using hp
                  by_cases hz : bV t2 s2 = bV t1 s1
                  · have q2 : (cmp (bV t1 s1) (bV t2 s2) == 0) = true := by rw [hz]; simp [cmp]
                    rw [hz] at xb yb
                    clear hp hz
                    go_wp2_with fail
                    go_ret
                    exact ⟨rfl, HB11.out⟩
                  · have q2 : (cmp (bV t1 s1) (bV t2 s2) == 0) = false := cmp_zero (Ne.symm hz)
                    by_cases ht : nT (bD t1 s1) (bV t2 s2) = nT (bD t1 s1) (bV t1 s1)
                    · have q3 : (nT (bD t1 s1) (bV t2 s2) == nT (bD t1 s1) (bV t1 s1)) = true := by simpa using ht
                      have q4 : ((nS (bD t1 s1) (bV t2 s2)).toList == (nS (bD t1 s1) (bV t1 s1)).toList) = false := str_ne fun e => hz (canon_inj HF.out hp ht e)
                      clear hp hz ht
                      go_wp2_with fail
                      go_ret
                      exact ⟨rfl, HB11.out⟩
                    · have q3 : (nT (bD t1 s1) (bV t2 s2) == nT (bD t1 s1) (bV t1 s1)) = false := by simpa using ht
                      clear hp hz ht
                      go_wp2_with fail
                      go_ret
                      exact ⟨rfl, HB11.out⟩
                · have q1 : (nE (bD t1 s1) (bV t2 s2) != 0) = true := by simpa using hp
                  clear hp
                  go_wp2_with fail
                  go_ret
                  exact ⟨rfl, HB11.out⟩
              · have q1 : (bD t2 s2 != bD t1 s1) = true := by simpa using hd
                clear hd
                go_wp2_with fail
                go_ret
                exact ⟨rfl, HB9.out⟩
            · have q1 : (bE t2 s2 != 0) = true := by simpa using ho
              clear ho
              go_wp2_with fail
              go_ret
              exact ⟨rfl, HB9.out⟩
      · have h11 : nE (bD t1 s1) (bV t1 s1) = 11 := (nE_in HBX.out).resolve_left hf
        have hn := nT_no hf
        rw [h11, hn.1, hn.2]
        clear hf h11 hn
        go_wp2_with fail
        go_ret
        exact ⟨rfl, (HB4.out.alloc HB4.out.size _)⟩
    · have q1 : (bE t1 s1 != 0) = true := by simpa using he
      clear he
      go_wp2_with fail
      go_ret
      exact ⟨rfl, HB3.out⟩
end Go.Proofs.YtbmmmhjgidffpaaDoor
