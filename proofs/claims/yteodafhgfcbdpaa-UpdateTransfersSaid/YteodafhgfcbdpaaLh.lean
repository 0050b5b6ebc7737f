import Derived.Test.YteodafhgfcbdpaaLg
namespace Go.Proofs.Yteodafhgfcbdpaa
open Go.RowKit

def tgd (key : Int) (l : List Int) : List Int := key :: (l.length : Int) :: l
theorem tagd_run (w : World) (key : Int) (sl : Value) (l : List Int) (ty : TypeId) (h : IntsAt w sl l) (hn : l.length ≤ 5000) :
    ∃ v' w', (Builtin.append_ #[22, 22] ty #[.slice (some ⟨w.heap.size, 0, none⟩) 2 2, sl]).run Try.prog (w.alloc (.cells #[.int .i64 key, .int .i64 (l.length : Int)] 3)) = .ok v' w' ∧ (∃ a c, v' = .slice a (2 + l.length) c) ∧ IntsAt w' v' (tgd key l) ∧ Below w.heap.size w w' := by
  have hr : (w.alloc (.cells #[.int .i64 key, .int .i64 (l.length : Int)] 3)).ownsRow w.heap.size 3 1 (.slice (some ⟨w.heap.size, 0, none⟩) 2 2) 2 [.int .i64 key, .int .i64 (l.length : Int)] :=
    ⟨rfl, .inr ⟨w.heap.size, 2, _, rfl, Nat.le_refl _, heap_alloc_new _ _, by omega, by unfold maxLen; omega, rfl, rfl⟩⟩
  obtain ⟨v', w', h1, h2, h3⟩ := run_appI _ w.heap.size 2 _ sl _ l ty hr (h.step (al _ _)) (by omega) (by simp)
  refine ⟨v', w', h1, row_slice h2, ints_of_row (xs := tgd key l) (base := w.heap.size) (t := 3) ?_, (al w _).grown h3 (by simp) (fun k e => by cases e; exact Nat.le_refl _)⟩
  rw [show (tgd key l).length = 2 + l.length by simp [tgd]; omega]
  exact h2
set_option maxRecDepth 100000 in
set_option maxHeartbeats 8000000 in
theorem tagA_any (key : Int) (v : Value) (l : List Int) (w : World) (h : IntsAt w v l) (hl : l.length ≤ 5000) : Calls Try.prog 30 #[.int .i64 key, v] w fun e w' => e = .returned (.int .i64 (Dg (tgd key l))) ∧ Below w.heap.size w w' := by
  obtain ⟨v', w', h1, h2, h3, h4⟩ := tagd_run w key v l 22 h hl
  obtain ⟨a, cap, rfl, hm, -⟩ := h
  unfold maxLen at hm
  obtain ⟨ra, rc, rfl⟩ := h2
  have HI := Lib.hid h3
  have HB := Lib.hid h4
  clear h3 h4
  go_enter Try.func30, Try.ntmps30
  go_wp2_with (at_builtin; refine wpList_appI rfl _ _ 22 rfl _ _ (.slice ra (2 + l.length) rc) rfl rfl h1 ?_)
  refine (digest_any _ (tgd key l) _ HI.out).mono ?_
  rintro e w1 ⟨rfl, rfl⟩
  go_wp2
  go_ret
  exact ⟨rfl, HB.out⟩
def cdB (L : List (List Int)) (i j : Nat) : Prop := L.getD i [] ≠ L.getD j [] ∧ Dg (L.getD i []) = Dg (L.getD j [])
def Cld (L : List (List Int)) : Prop := ∃ i j, i < L.length ∧ j < L.length ∧ cdB L i j
theorem Cld.sorted {L : List (List Int)} (h : Cld L) : ∃ i j, j < i ∧ i < L.length ∧ cdB L i j := by
  obtain ⟨i, j, hi, hj, h1, h2⟩ := h
  by_cases hij : j < i
  · exact ⟨i, j, hij, hi, h1, h2⟩
  · by_cases e : i = j
    · subst e; exact absurd rfl h1
    · exact ⟨j, i, by omega, hj, h1.symm, h2.symm⟩
set_option maxRecDepth 100000 in
set_option maxHeartbeats 8000000 in
theorem collide_yes (v : Value) (L : List (List Int)) (w : World) (h : RowsAt w v L) (hL : L.length ≤ 1000) (hc : Cld L) : Calls Try.prog 26 #[v] w fun e w' => e = .returned (.bool true) ∧ Below w.heap.size w w' := by
  have HR0 := Lib.hid h
  obtain ⟨a, cap, rfl, -, hx⟩ := h
  have HX := Lib.hid hx
  have HC := Lib.hid hc.sorted
  replace hL := Lib.hid hL
  clear hx hc
  go_enter Try.func26, Try.ntmps26
  go_wp2_with fail
  go_loopw [3] (fun iv wr => ∃ i : Nat, i ≤ L.length ∧ iv = .int .i64 i ∧ Hid (∀ p q, p < i → q < p → ¬ cdB L p q) ∧ Hid (Below w.heap.size w wr)) (fun iv _ => L.length - (intOf iv).toNat)
  case atStart => exact ⟨0, by omega, rfl, Lib.hid (fun p q h => by omega), Lib.hid (Below.refl _ _)⟩
  case round =>
    obtain ⟨i, hi, rfl, HN, HB⟩ := hrel
    have hi9 : i ≤ 1000 := Nat.le_trans hi hL.out
    by_cases hlt : i < L.length
    · have hlt2 : (i : Int) < L.length := by omega
      have hiw : wrap64 ((i : Int) + 1) = i + 1 := IntWalk.wrap64_in _ (by omega)
      replace hi := Lib.hid hi
      go_wp2_with fail
      go_loopw [4] (fun kv wr => ∃ k : Nat, k ≤ i ∧ kv = .int .i64 k ∧ Hid (∀ q, q < k → ¬ cdB L i q) ∧ Hid (Below w.heap.size w wr)) (fun kv _ => i - (intOf kv).toNat)
      case atStart => exact ⟨0, by omega, rfl, Lib.hid (fun q h => by omega), HB⟩
      case round =>
        clear HB
        obtain ⟨k, hk, rfl, HK, HB⟩ := hrel
        by_cases hlk : k < i
        · have hkl : k < L.length := by omega
          have hlk2 : (k : Int) < i := by omega
          have hkw : wrap64 ((k : Int) + 1) = k + 1 := IntWalk.wrap64_in _ (by omega)
          obtain ⟨b, off, rfl, hcs2⟩ := HX.out (by intro h; rw [h] at hlt; simp at hlt)
          obtain ⟨u, x0, hu⟩ := hcs2 i _ (rows_get hlt)
          obtain ⟨v, y0, hv⟩ := hcs2 k _ (rows_get hkl)
          have X0 := Lib.hid (keep1 HB.out x0)
          have Y0 := Lib.hid (keep1 HB.out y0)
          have HU := Lib.hid (hu.step HB.out)
          have HV := Lib.hid (hv.step HB.out)
          obtain ⟨ua, uc, rfl, -, -⟩ := hu
          obtain ⟨va, vc, rfl, -, -⟩ := hv
          clear hcs2 x0 y0
          have HF := Lib.hid (show ¬ cdB L i k → ∀ q, q < k + 1 → ¬ cdB L i q from fun hn q h => by
            by_cases e : q = k
            · subst e; exact hn
            · exact HK.out q (by omega))
          have HD := Lib.hid (show cdB L i k ↔ L.getD i [] ≠ L.getD k [] ∧ Dg (L.getD i []) = Dg (L.getD k []) from Iff.rfl)
          clear HK
          generalize L.getD i [] = x at *
          generalize L.getD k [] = y at *
          obtain ⟨d1, hd1⟩ : ∃ z, Dg x = z := ⟨_, rfl⟩
          obtain ⟨d2, hd2⟩ : ∃ z, Dg y = z := ⟨_, rfl⟩
          rw [hd1, hd2] at HD
          replace hd1 := Lib.hid hd1
          replace hd2 := Lib.hid hd2
          go_wp2_with fail
          by_cases he : x = y
          · have HF2 := Lib.hid (HF.out (fun h => (HD.out.1 h).1 he))
            have HE := Lib.hid he
            clear he HF HD
            replace hlt := Lib.hid hlt
            replace hkl := Lib.hid hkl
            obtain ⟨lit, hlit⟩ : ∃ lit : (Nat → Value) → Act, lit = fun vs => { tmps := List.toArray (Value.slice (some { block := b, off := off }) L.length cap :: undef :: u2 :: Value.int IntKind.i64 (i : Int) :: Value.int IntKind.i64 (k : Int) :: Value.int IntKind.i64 (i : Int) :: Value.slice (some { block := b, off := off }) L.length cap :: Value.int IntKind.i64 (L.length : Int) :: Value.bool true :: u9 :: u10 :: Value.int IntKind.i64 (k : Int) :: Value.int IntKind.i64 (i : Int) :: Value.bool true :: u14 :: u15 :: vs 0 :: vs 1 :: vs 2 :: vs 3 :: vs 4 :: vs 5 :: vs 6 :: vs 7 :: vs 8 :: vs 9 :: vs 10 :: vs 11 :: vs 12 :: vs 13 :: vs 14 :: vs 15 :: vs 16 :: vs 17 :: vs 18 :: vs 19 :: vs 20 :: vs 21 :: vs 22 :: []), defers := [] } := ⟨_, rfl⟩
            have HLIT := Lib.hid hlit
            clear hlit
            obtain ⟨val, hval⟩ : ∃ val : List Value, val = [.slice (some ⟨b, off, none⟩) L.length cap, .int .i64 i, .pointer (some ⟨b, off + i, none⟩), .slice ua x.length uc, .slice (some ⟨b, off, none⟩) L.length cap, .int .i64 k, .pointer (some ⟨b, off + k, none⟩), .slice va y.length vc, .bool true, .bool false, .bool false, undef, undef, undef, undef, undef, undef, undef, undef, undef, undef, undef, .bool false] := ⟨_, rfl⟩
            have E0 := Lib.hid (show val.getD 0 undef = .slice (some ⟨b, off, none⟩) L.length cap by rw [hval]; rfl)
            have E1 := Lib.hid (show val.getD 1 undef = .int .i64 i by rw [hval]; rfl)
            have E2 := Lib.hid (show val.getD 2 undef = .pointer (some ⟨b, off + i, none⟩) by rw [hval]; rfl)
            have E3 := Lib.hid (show val.getD 3 undef = .slice ua x.length uc by rw [hval]; rfl)
            have E4 := Lib.hid (show val.getD 4 undef = .slice (some ⟨b, off, none⟩) L.length cap by rw [hval]; rfl)
            have E5 := Lib.hid (show val.getD 5 undef = .int .i64 k by rw [hval]; rfl)
            have E6 := Lib.hid (show val.getD 6 undef = .pointer (some ⟨b, off + k, none⟩) by rw [hval]; rfl)
            have E7 := Lib.hid (show val.getD 7 undef = .slice va y.length vc by rw [hval]; rfl)
            have E8 := Lib.hid (show val.getD 8 undef = .bool true by rw [hval]; rfl)
            have E9 := Lib.hid (show val.getD 9 undef = .bool false by rw [hval]; rfl)
            have E10 := Lib.hid (show val.getD 10 undef = .bool false by rw [hval]; rfl)
            have E11 := Lib.hid (show val.getD 11 undef = undef by rw [hval]; rfl)
            have E12 := Lib.hid (show val.getD 12 undef = undef by rw [hval]; rfl)
            have E13 := Lib.hid (show val.getD 13 undef = undef by rw [hval]; rfl)
            have E14 := Lib.hid (show val.getD 14 undef = undef by rw [hval]; rfl)
            have E15 := Lib.hid (show val.getD 15 undef = undef by rw [hval]; rfl)
            have E16 := Lib.hid (show val.getD 16 undef = undef by rw [hval]; rfl)
            have E17 := Lib.hid (show val.getD 17 undef = undef by rw [hval]; rfl)
            have E18 := Lib.hid (show val.getD 18 undef = undef by rw [hval]; rfl)
            have E19 := Lib.hid (show val.getD 19 undef = undef by rw [hval]; rfl)
            have E20 := Lib.hid (show val.getD 20 undef = undef by rw [hval]; rfl)
            have E21 := Lib.hid (show val.getD 21 undef = undef by rw [hval]; rfl)
            have E22 := Lib.hid (show val.getD 22 undef = .bool false by rw [hval]; rfl)
            clear hval
            obtain ⟨G, hG0⟩ : ∃ G : Nat → Value → World → Prop, G = (fun i v w => (v = val.getD i undef)) := ⟨_, rfl⟩
            have HG := Lib.hid hG0
            clear hG0
            refine region_inv (RS lit wr G) (by kernel_rfl) (by decide +kernel) ?_ ?_ ?_
            · exact ⟨fun i => ([u16, u17, u18, u19, u20, u21, u22, u23, u24, u25, u26, u27, u28, u29, u30, u31, u32, u33, u34, u35, u36, u37, u38] : List Value).getD i undef, (by rw [HLIT.out]; rfl), below_drew _ _, fun i h => by cases h⟩
            · refine ⟨?_, ?_, ?_, ?_, ?_, ?_, ?_, ?_, ?_, ?_, ?_, ?_, ?_, ?_, ?_, ?_, ?_, ?_, ?_, ?_, ?_, ?_, ?_, trivial⟩
              · intro bf ac wv hfb haf hJ K' hK
                obtain ⟨vs, rfl, hM, j4⟩ := hJ
                replace hK := Lib.hid hK
                replace hM := Lib.hid hM
                rw [HG.out] at j4
                replace j4 := Lib.hid j4
                clear haf hfb
                rw [HLIT.out]
                go_simp
                exact hK.out _ _ (RS.next (wv := wv) (vs := vs) 0 (x := .slice (some ⟨b, off, none⟩) L.length cap) (by rw [HLIT.out]; rfl) (by rw [HG.out]; exact j4.out) hM.out (by rw [HG.out]; exact fun _ _ h => h) (by rw [HG.out]; exact E0.out.symm))
              · intro bf ac wv hfb haf hJ K' hK
                obtain ⟨vs, rfl, hM, j4⟩ := hJ
                replace hK := Lib.hid hK
                replace hM := Lib.hid hM
                rw [HG.out] at j4
                replace j4 := Lib.hid j4
                clear haf hfb
                rw [HLIT.out]
                go_simp
                exact hK.out _ _ (RS.next (wv := wv) (vs := vs) 1 (x := .int .i64 i) (by rw [HLIT.out]; rfl) (by rw [HG.out]; exact j4.out) hM.out (by rw [HG.out]; exact fun _ _ h => h) (by rw [HG.out]; exact E1.out.symm))
              · intro bf ac wv hfb haf hJ K' hK
                obtain ⟨vs, rfl, hM, j4⟩ := hJ
                replace hK := Lib.hid hK
                replace hM := Lib.hid hM
                rw [HG.out] at j4
                simp [Region.binds] at haf
                have e0 := ((j4 0 (by simp [haf]))).trans E0.out
                have e1 := ((j4 1 (by simp [haf]))).trans E1.out
                replace j4 := Lib.hid j4
                clear haf hfb
                have hn1 : (i : Int) < L.length := by have := hlt.out; omega
                have hn2 : (0 : Int) ≤ (i : Int) := by omega
                have hn3 : i < L.length := hlt.out
                rw [HLIT.out]
                go_simp
                exact hK.out _ _ (RS.next (wv := wv) (vs := vs) 2 (x := .pointer (some ⟨b, off + i, none⟩)) (by rw [HLIT.out]; simp only [upv, e0, e1, Nat.reduceBEq, cond_true, cond_false]) (by rw [HG.out]; exact j4.out) hM.out (by rw [HG.out]; exact fun _ _ h => h) (by rw [HG.out]; exact E2.out.symm))
              · intro bf ac wv hfb haf hJ K' hK
                obtain ⟨vs, rfl, hM, j4⟩ := hJ
                replace hK := Lib.hid hK
                replace hM := Lib.hid hM
                rw [HG.out] at j4
                simp [Region.binds] at haf
                have e2 := ((j4 2 (by simp [haf]))).trans E2.out
                replace j4 := Lib.hid j4
                clear haf hfb
                have xg := keep1 hM.out X0.out
                have xgz := World.block_lt_of_cell? _ _ xg
                have xgz : b < wv.heap.size := xgz
                rw [HLIT.out]
                go_simp
                exact hK.out _ _ (RS.next (wv := wv) (vs := vs) 3 (x := .slice ua x.length uc) (by rw [HLIT.out]; simp only [upv, e2, Nat.reduceBEq, cond_true, cond_false]) (by rw [HG.out]; exact j4.out) hM.out (by rw [HG.out]; exact fun _ _ h => h) (by rw [HG.out]; exact E3.out.symm))
              · intro bf ac wv hfb haf hJ K' hK
                obtain ⟨vs, rfl, hM, j4⟩ := hJ
                replace hK := Lib.hid hK
                replace hM := Lib.hid hM
                rw [HG.out] at j4
                replace j4 := Lib.hid j4
                clear haf hfb
                rw [HLIT.out]
                go_simp
                exact hK.out _ _ (RS.next (wv := wv) (vs := vs) 4 (x := .slice (some ⟨b, off, none⟩) L.length cap) (by rw [HLIT.out]; rfl) (by rw [HG.out]; exact j4.out) hM.out (by rw [HG.out]; exact fun _ _ h => h) (by rw [HG.out]; exact E4.out.symm))
              · intro bf ac wv hfb haf hJ K' hK
                obtain ⟨vs, rfl, hM, j4⟩ := hJ
                replace hK := Lib.hid hK
                replace hM := Lib.hid hM
                rw [HG.out] at j4
                replace j4 := Lib.hid j4
                clear haf hfb
                rw [HLIT.out]
                go_simp
                exact hK.out _ _ (RS.next (wv := wv) (vs := vs) 5 (x := .int .i64 k) (by rw [HLIT.out]; rfl) (by rw [HG.out]; exact j4.out) hM.out (by rw [HG.out]; exact fun _ _ h => h) (by rw [HG.out]; exact E5.out.symm))
              · intro bf ac wv hfb haf hJ K' hK
                obtain ⟨vs, rfl, hM, j4⟩ := hJ
                replace hK := Lib.hid hK
                replace hM := Lib.hid hM
                rw [HG.out] at j4
                simp [Region.binds] at haf
                have e4 := ((j4 4 (by simp [haf]))).trans E4.out
                have e5 := ((j4 5 (by simp [haf]))).trans E5.out
                replace j4 := Lib.hid j4
                clear haf hfb
                have hn1 : (k : Int) < L.length := by have := hkl.out; omega
                have hn2 : (0 : Int) ≤ (k : Int) := by omega
                have hn3 : k < L.length := hkl.out
                rw [HLIT.out]
                go_simp
                exact hK.out _ _ (RS.next (wv := wv) (vs := vs) 6 (x := .pointer (some ⟨b, off + k, none⟩)) (by rw [HLIT.out]; simp only [upv, e4, e5, Nat.reduceBEq, cond_true, cond_false]) (by rw [HG.out]; exact j4.out) hM.out (by rw [HG.out]; exact fun _ _ h => h) (by rw [HG.out]; exact E6.out.symm))
              · intro bf ac wv hfb haf hJ K' hK
                obtain ⟨vs, rfl, hM, j4⟩ := hJ
                replace hK := Lib.hid hK
                replace hM := Lib.hid hM
                rw [HG.out] at j4
                simp [Region.binds] at haf
                have e6 := ((j4 6 (by simp [haf]))).trans E6.out
                replace j4 := Lib.hid j4
                clear haf hfb
                have xg := keep1 hM.out Y0.out
                have xgz := World.block_lt_of_cell? _ _ xg
                have xgz : b < wv.heap.size := xgz
                rw [HLIT.out]
                go_simp
                exact hK.out _ _ (RS.next (wv := wv) (vs := vs) 7 (x := .slice va y.length vc) (by rw [HLIT.out]; simp only [upv, e6, Nat.reduceBEq, cond_true, cond_false]) (by rw [HG.out]; exact j4.out) hM.out (by rw [HG.out]; exact fun _ _ h => h) (by rw [HG.out]; exact E7.out.symm))
              · intro bf ac wv hfb haf hJ K' hK
                obtain ⟨vs, rfl, hM, j4⟩ := hJ
                replace hK := Lib.hid hK
                replace hM := Lib.hid hM
                rw [HG.out] at j4
                simp [Region.binds] at haf
                have e3 := ((j4 3 (by simp [haf]))).trans E3.out
                have e7 := ((j4 7 (by simp [haf]))).trans E7.out
                replace j4 := Lib.hid j4
                clear haf hfb
                rw [HLIT.out]
                go_simp
                go_at_call 21
                refine (ints_any _ _ x y _ (HU.out.step hM.out) (HV.out.step hM.out)).mono ?_
                rintro e w4 ⟨rfl, n9, rfl⟩
                rw [decide_eq_true HE.out]
                have b4 : Below wv.heap.size wv (wv.drewN n9) := below_drewN' _ _ _
                exact hK.out _ _ (RS.next (wv := wv) (vs := vs) 8 (x := .bool true) (by rw [HLIT.out]; simp only [upv, e3, e7, Nat.reduceBEq, cond_true, cond_false]) (by rw [HG.out]; exact j4.out) (keep2 b4 hM.out) (by rw [HG.out]; exact fun _ _ h => h) (by rw [HG.out]; exact E8.out.symm))
              · intro bf ac wv hfb haf hJ K' hK
                obtain ⟨vs, rfl, hM, j4⟩ := hJ
                replace hK := Lib.hid hK
                replace hM := Lib.hid hM
                rw [HG.out] at j4
                simp [Region.binds] at haf
                have e8 := ((j4 8 (by simp [haf]))).trans E8.out
                replace j4 := Lib.hid j4
                clear haf hfb
                rw [HLIT.out]
                go_simp
                exact hK.out _ _ (RS.next (wv := wv) (vs := vs) 9 (x := .bool false) (by rw [HLIT.out]; simp only [upv, e8, Nat.reduceBEq, cond_true, cond_false]) (by rw [HG.out]; exact j4.out) hM.out (by rw [HG.out]; exact fun _ _ h => h) (by rw [HG.out]; exact E9.out.symm))
              · intro bf ac wv hfb haf hJ K' hK
                obtain ⟨vs, rfl, hM, j4⟩ := hJ
                replace hK := Lib.hid hK
                replace hM := Lib.hid hM
                rw [HG.out] at j4
                simp [Region.binds] at haf
                have e9 := ((j4 9 (by simp [haf]))).trans E9.out
                replace j4 := Lib.hid j4
                clear haf hfb
                rw [HLIT.out]
                go_simp
                exact hK.out _ _ (RS.next (wv := wv) (vs := vs) 10 (x := .bool false) (by rw [HLIT.out]; simp only [upv, e9, Nat.reduceBEq, cond_true, cond_false]) (by rw [HG.out]; exact j4.out) hM.out (by rw [HG.out]; exact fun _ _ h => h) (by rw [HG.out]; exact E10.out.symm))
              · intro bf ac wv hfb haf hJ K' hK
                obtain ⟨vs, rfl, hM, j4⟩ := hJ
                replace hK := Lib.hid hK
                replace hM := Lib.hid hM
                rw [HG.out] at j4
                simp [Region.binds] at haf
                have e10 := ((j4 10 (by simp [haf]))).trans E10.out
                replace j4 := Lib.hid j4
                clear haf hfb
                rw [HLIT.out]
                go_simp
                exact hK.out _ _ (RS.next (wv := wv) (vs := vs) 11 (x := undef) (by rw [HLIT.out]; simp only [upv, e10, Nat.reduceBEq, cond_true, cond_false]) (by rw [HG.out]; exact j4.out) hM.out (by rw [HG.out]; exact fun _ _ h => h) (by rw [HG.out]; exact E11.out.symm))
              · intro bf ac wv hfb haf hJ K' hK
                obtain ⟨vs, rfl, hM, j4⟩ := hJ
                replace hK := Lib.hid hK
                replace hM := Lib.hid hM
                rw [HG.out] at j4
                simp [Region.binds] at haf
                have e10 := ((j4 10 (by simp [haf]))).trans E10.out
                replace j4 := Lib.hid j4
                clear haf hfb
                rw [HLIT.out]
                go_simp
                exact hK.out _ _ (RS.next (wv := wv) (vs := vs) 12 (x := undef) (by rw [HLIT.out]; simp only [upv, e10, Nat.reduceBEq, cond_true, cond_false]) (by rw [HG.out]; exact j4.out) hM.out (by rw [HG.out]; exact fun _ _ h => h) (by rw [HG.out]; exact E12.out.symm))
              · intro bf ac wv hfb haf hJ K' hK
                obtain ⟨vs, rfl, hM, j4⟩ := hJ
                replace hK := Lib.hid hK
                replace hM := Lib.hid hM
                rw [HG.out] at j4
                simp [Region.binds] at haf
                have e10 := ((j4 10 (by simp [haf]))).trans E10.out
                replace j4 := Lib.hid j4
                clear haf hfb
                rw [HLIT.out]
                go_simp
                exact hK.out _ _ (RS.next (wv := wv) (vs := vs) 13 (x := undef) (by rw [HLIT.out]; simp only [upv, e10, Nat.reduceBEq, cond_true, cond_false]) (by rw [HG.out]; exact j4.out) hM.out (by rw [HG.out]; exact fun _ _ h => h) (by rw [HG.out]; exact E13.out.symm))
              · intro bf ac wv hfb haf hJ K' hK
                obtain ⟨vs, rfl, hM, j4⟩ := hJ
                replace hK := Lib.hid hK
                replace hM := Lib.hid hM
                rw [HG.out] at j4
                simp [Region.binds] at haf
                have e10 := ((j4 10 (by simp [haf]))).trans E10.out
                replace j4 := Lib.hid j4
                clear haf hfb
                rw [HLIT.out]
                go_simp
                exact hK.out _ _ (RS.next (wv := wv) (vs := vs) 14 (x := undef) (by rw [HLIT.out]; simp only [upv, e10, Nat.reduceBEq, cond_true, cond_false]) (by rw [HG.out]; exact j4.out) hM.out (by rw [HG.out]; exact fun _ _ h => h) (by rw [HG.out]; exact E14.out.symm))
              · intro bf ac wv hfb haf hJ K' hK
                obtain ⟨vs, rfl, hM, j4⟩ := hJ
                replace hK := Lib.hid hK
                replace hM := Lib.hid hM
                rw [HG.out] at j4
                simp [Region.binds] at haf
                have e10 := ((j4 10 (by simp [haf]))).trans E10.out
                replace j4 := Lib.hid j4
                clear haf hfb
                rw [HLIT.out]
                go_simp
                exact hK.out _ _ (RS.next (wv := wv) (vs := vs) 15 (x := undef) (by rw [HLIT.out]; simp only [upv, e10, Nat.reduceBEq, cond_true, cond_false]) (by rw [HG.out]; exact j4.out) hM.out (by rw [HG.out]; exact fun _ _ h => h) (by rw [HG.out]; exact E15.out.symm))
              · intro bf ac wv hfb haf hJ K' hK
                obtain ⟨vs, rfl, hM, j4⟩ := hJ
                replace hK := Lib.hid hK
                replace hM := Lib.hid hM
                rw [HG.out] at j4
                simp [Region.binds] at haf
                have e10 := ((j4 10 (by simp [haf]))).trans E10.out
                replace j4 := Lib.hid j4
                clear haf hfb
                rw [HLIT.out]
                go_simp
                exact hK.out _ _ (RS.next (wv := wv) (vs := vs) 16 (x := undef) (by rw [HLIT.out]; simp only [upv, e10, Nat.reduceBEq, cond_true, cond_false]) (by rw [HG.out]; exact j4.out) hM.out (by rw [HG.out]; exact fun _ _ h => h) (by rw [HG.out]; exact E16.out.symm))
              · intro bf ac wv hfb haf hJ K' hK
                obtain ⟨vs, rfl, hM, j4⟩ := hJ
                replace hK := Lib.hid hK
                replace hM := Lib.hid hM
                rw [HG.out] at j4
                simp [Region.binds] at haf
                have e10 := ((j4 10 (by simp [haf]))).trans E10.out
                replace j4 := Lib.hid j4
                clear haf hfb
                rw [HLIT.out]
                go_simp
                exact hK.out _ _ (RS.next (wv := wv) (vs := vs) 17 (x := undef) (by rw [HLIT.out]; simp only [upv, e10, Nat.reduceBEq, cond_true, cond_false]) (by rw [HG.out]; exact j4.out) hM.out (by rw [HG.out]; exact fun _ _ h => h) (by rw [HG.out]; exact E17.out.symm))
              · intro bf ac wv hfb haf hJ K' hK
                obtain ⟨vs, rfl, hM, j4⟩ := hJ
                replace hK := Lib.hid hK
                replace hM := Lib.hid hM
                rw [HG.out] at j4
                simp [Region.binds] at haf
                have e10 := ((j4 10 (by simp [haf]))).trans E10.out
                replace j4 := Lib.hid j4
                clear haf hfb
                rw [HLIT.out]
                go_simp
                exact hK.out _ _ (RS.next (wv := wv) (vs := vs) 18 (x := undef) (by rw [HLIT.out]; simp only [upv, e10, Nat.reduceBEq, cond_true, cond_false]) (by rw [HG.out]; exact j4.out) hM.out (by rw [HG.out]; exact fun _ _ h => h) (by rw [HG.out]; exact E18.out.symm))
              · intro bf ac wv hfb haf hJ K' hK
                obtain ⟨vs, rfl, hM, j4⟩ := hJ
                replace hK := Lib.hid hK
                replace hM := Lib.hid hM
                rw [HG.out] at j4
                simp [Region.binds] at haf
                have e10 := ((j4 10 (by simp [haf]))).trans E10.out
                replace j4 := Lib.hid j4
                clear haf hfb
                rw [HLIT.out]
                go_simp
                exact hK.out _ _ (RS.next (wv := wv) (vs := vs) 19 (x := undef) (by rw [HLIT.out]; simp only [upv, e10, Nat.reduceBEq, cond_true, cond_false]) (by rw [HG.out]; exact j4.out) hM.out (by rw [HG.out]; exact fun _ _ h => h) (by rw [HG.out]; exact E19.out.symm))
              · intro bf ac wv hfb haf hJ K' hK
                obtain ⟨vs, rfl, hM, j4⟩ := hJ
                replace hK := Lib.hid hK
                replace hM := Lib.hid hM
                rw [HG.out] at j4
                simp [Region.binds] at haf
                have e10 := ((j4 10 (by simp [haf]))).trans E10.out
                replace j4 := Lib.hid j4
                clear haf hfb
                rw [HLIT.out]
                go_simp
                exact hK.out _ _ (RS.next (wv := wv) (vs := vs) 20 (x := undef) (by rw [HLIT.out]; simp only [upv, e10, Nat.reduceBEq, cond_true, cond_false]) (by rw [HG.out]; exact j4.out) hM.out (by rw [HG.out]; exact fun _ _ h => h) (by rw [HG.out]; exact E20.out.symm))
              · intro bf ac wv hfb haf hJ K' hK
                obtain ⟨vs, rfl, hM, j4⟩ := hJ
                replace hK := Lib.hid hK
                replace hM := Lib.hid hM
                rw [HG.out] at j4
                simp [Region.binds] at haf
                have e10 := ((j4 10 (by simp [haf]))).trans E10.out
                replace j4 := Lib.hid j4
                clear haf hfb
                rw [HLIT.out]
                go_simp
                exact hK.out _ _ (RS.next (wv := wv) (vs := vs) 21 (x := undef) (by rw [HLIT.out]; simp only [upv, e10, Nat.reduceBEq, cond_true, cond_false]) (by rw [HG.out]; exact j4.out) hM.out (by rw [HG.out]; exact fun _ _ h => h) (by rw [HG.out]; exact E21.out.symm))
              · intro bf ac wv hfb haf hJ K' hK
                obtain ⟨vs, rfl, hM, j4⟩ := hJ
                replace hK := Lib.hid hK
                replace hM := Lib.hid hM
                rw [HG.out] at j4
                simp [Region.binds] at haf
                have e10 := ((j4 10 (by simp [haf]))).trans E10.out
                have e21 := ((j4 21 (by simp [haf]))).trans E21.out
                replace j4 := Lib.hid j4
                clear haf hfb
                rw [HLIT.out]
                go_simp
                exact hK.out _ _ (RS.next (wv := wv) (vs := vs) 22 (x := .bool false) (by rw [HLIT.out]; simp only [upv, e10, e21, Nat.reduceBEq, cond_true, cond_false]) (by rw [HG.out]; exact j4.out) hM.out (by rw [HG.out]; exact fun _ _ h => h) (by rw [HG.out]; exact E22.out.symm))
            · intro bf ac wv hall hJ
              obtain ⟨vs, rfl, hM, j4⟩ := hJ
              rw [HG.out] at j4
              have e22 := ((j4 22 (hall 22 (by decide)))).trans E22.out
              have HB9 := Lib.hid (HB.out.trans (hM.mono HB.out.size))
              clear hM hall j4
              rw [HLIT.out]
              dsimp only
              rw [e22]
              clear e22
              go_wp2
              go_roundw
              case rel => exact ⟨k + 1, hlk, by first | rfl | go_num, HF2, HB9⟩
              case measure => simp [intOf]; omega
          · by_cases hd : d1 = d2
            · have HQ := Lib.hid (show (d1 == d2) = true by simpa using hd)
              have HE := Lib.hid he
              clear he hd HF HD
              replace hlt := Lib.hid hlt
              replace hkl := Lib.hid hkl
              obtain ⟨lit, hlit⟩ : ∃ lit : (Nat → Value) → Act, lit = fun vs => { tmps := List.toArray (Value.slice (some { block := b, off := off }) L.length cap :: undef :: u2 :: Value.int IntKind.i64 (i : Int) :: Value.int IntKind.i64 (k : Int) :: Value.int IntKind.i64 (i : Int) :: Value.slice (some { block := b, off := off }) L.length cap :: Value.int IntKind.i64 (L.length : Int) :: Value.bool true :: u9 :: u10 :: Value.int IntKind.i64 (k : Int) :: Value.int IntKind.i64 (i : Int) :: Value.bool true :: u14 :: u15 :: vs 0 :: vs 1 :: vs 2 :: vs 3 :: vs 4 :: vs 5 :: vs 6 :: vs 7 :: vs 8 :: vs 9 :: vs 10 :: vs 11 :: vs 12 :: vs 13 :: vs 14 :: vs 15 :: vs 16 :: vs 17 :: vs 18 :: vs 19 :: vs 20 :: vs 21 :: vs 22 :: []), defers := [] } := ⟨_, rfl⟩
              have HLIT := Lib.hid hlit
              clear hlit
              obtain ⟨val, hval⟩ : ∃ val : List Value, val = [.slice (some ⟨b, off, none⟩) L.length cap, .int .i64 i, .pointer (some ⟨b, off + i, none⟩), .slice ua x.length uc, .slice (some ⟨b, off, none⟩) L.length cap, .int .i64 k, .pointer (some ⟨b, off + k, none⟩), .slice va y.length vc, .bool false, .bool true, .bool true, .slice (some ⟨b, off, none⟩) L.length cap, .int .i64 i, .pointer (some ⟨b, off + i, none⟩), .slice ua x.length uc, .int .i64 d1, .slice (some ⟨b, off, none⟩) L.length cap, .int .i64 k, .pointer (some ⟨b, off + k, none⟩), .slice va y.length vc, .int .i64 d2, .bool true, .bool true] := ⟨_, rfl⟩
              have E0 := Lib.hid (show val.getD 0 undef = .slice (some ⟨b, off, none⟩) L.length cap by rw [hval]; rfl)
              have E1 := Lib.hid (show val.getD 1 undef = .int .i64 i by rw [hval]; rfl)
              have E2 := Lib.hid (show val.getD 2 undef = .pointer (some ⟨b, off + i, none⟩) by rw [hval]; rfl)
              have E3 := Lib.hid (show val.getD 3 undef = .slice ua x.length uc by rw [hval]; rfl)
              have E4 := Lib.hid (show val.getD 4 undef = .slice (some ⟨b, off, none⟩) L.length cap by rw [hval]; rfl)
              have E5 := Lib.hid (show val.getD 5 undef = .int .i64 k by rw [hval]; rfl)
              have E6 := Lib.hid (show val.getD 6 undef = .pointer (some ⟨b, off + k, none⟩) by rw [hval]; rfl)
              have E7 := Lib.hid (show val.getD 7 undef = .slice va y.length vc by rw [hval]; rfl)
              have E8 := Lib.hid (show val.getD 8 undef = .bool false by rw [hval]; rfl)
              have E9 := Lib.hid (show val.getD 9 undef = .bool true by rw [hval]; rfl)
              have E10 := Lib.hid (show val.getD 10 undef = .bool true by rw [hval]; rfl)
              have E11 := Lib.hid (show val.getD 11 undef = .slice (some ⟨b, off, none⟩) L.length cap by rw [hval]; rfl)
              have E12 := Lib.hid (show val.getD 12 undef = .int .i64 i by rw [hval]; rfl)
              have E13 := Lib.hid (show val.getD 13 undef = .pointer (some ⟨b, off + i, none⟩) by rw [hval]; rfl)
              have E14 := Lib.hid (show val.getD 14 undef = .slice ua x.length uc by rw [hval]; rfl)
              have E15 := Lib.hid (show val.getD 15 undef = .int .i64 d1 by rw [hval]; rfl)
              have E16 := Lib.hid (show val.getD 16 undef = .slice (some ⟨b, off, none⟩) L.length cap by rw [hval]; rfl)
              have E17 := Lib.hid (show val.getD 17 undef = .int .i64 k by rw [hval]; rfl)
              have E18 := Lib.hid (show val.getD 18 undef = .pointer (some ⟨b, off + k, none⟩) by rw [hval]; rfl)
              have E19 := Lib.hid (show val.getD 19 undef = .slice va y.length vc by rw [hval]; rfl)
              have E20 := Lib.hid (show val.getD 20 undef = .int .i64 d2 by rw [hval]; rfl)
              have E21 := Lib.hid (show val.getD 21 undef = .bool true by rw [hval]; rfl)
              have E22 := Lib.hid (show val.getD 22 undef = .bool true by rw [hval]; rfl)
              clear hval
              obtain ⟨G, hG0⟩ : ∃ G : Nat → Value → World → Prop, G = (fun i v w => (v = val.getD i undef)) := ⟨_, rfl⟩
              have HG := Lib.hid hG0
              clear hG0
              refine region_inv (RS lit wr G) (by kernel_rfl) (by decide +kernel) ?_ ?_ ?_
              · exact ⟨fun i => ([u16, u17, u18, u19, u20, u21, u22, u23, u24, u25, u26, u27, u28, u29, u30, u31, u32, u33, u34, u35, u36, u37, u38] : List Value).getD i undef, (by rw [HLIT.out]; rfl), below_drew _ _, fun i h => by cases h⟩
              · refine ⟨?_, ?_, ?_, ?_, ?_, ?_, ?_, ?_, ?_, ?_, ?_, ?_, ?_, ?_, ?_, ?_, ?_, ?_, ?_, ?_, ?_, ?_, ?_, trivial⟩
                · intro bf ac wv hfb haf hJ K' hK
                  obtain ⟨vs, rfl, hM, j4⟩ := hJ
                  replace hK := Lib.hid hK
                  replace hM := Lib.hid hM
                  rw [HG.out] at j4
                  replace j4 := Lib.hid j4
                  clear haf hfb
                  rw [HLIT.out]
                  go_simp
                  exact hK.out _ _ (RS.next (wv := wv) (vs := vs) 0 (x := .slice (some ⟨b, off, none⟩) L.length cap) (by rw [HLIT.out]; rfl) (by rw [HG.out]; exact j4.out) hM.out (by rw [HG.out]; exact fun _ _ h => h) (by rw [HG.out]; exact E0.out.symm))
                · intro bf ac wv hfb haf hJ K' hK
                  obtain ⟨vs, rfl, hM, j4⟩ := hJ
                  replace hK := Lib.hid hK
                  replace hM := Lib.hid hM
                  rw [HG.out] at j4
                  replace j4 := Lib.hid j4
                  clear haf hfb
                  rw [HLIT.out]
                  go_simp
                  exact hK.out _ _ (RS.next (wv := wv) (vs := vs) 1 (x := .int .i64 i) (by rw [HLIT.out]; rfl) (by rw [HG.out]; exact j4.out) hM.out (by rw [HG.out]; exact fun _ _ h => h) (by rw [HG.out]; exact E1.out.symm))
                · intro bf ac wv hfb haf hJ K' hK
                  obtain ⟨vs, rfl, hM, j4⟩ := hJ
                  replace hK := Lib.hid hK
                  replace hM := Lib.hid hM
                  rw [HG.out] at j4
                  simp [Region.binds] at haf
                  have e0 := ((j4 0 (by simp [haf]))).trans E0.out
                  have e1 := ((j4 1 (by simp [haf]))).trans E1.out
                  replace j4 := Lib.hid j4
                  clear haf hfb
                  have hn1 : (i : Int) < L.length := by have := hlt.out; omega
                  have hn2 : (0 : Int) ≤ (i : Int) := by omega
                  have hn3 : i < L.length := hlt.out
                  rw [HLIT.out]
                  go_simp
                  exact hK.out _ _ (RS.next (wv := wv) (vs := vs) 2 (x := .pointer (some ⟨b, off + i, none⟩)) (by rw [HLIT.out]; simp only [upv, e0, e1, Nat.reduceBEq, cond_true, cond_false]) (by rw [HG.out]; exact j4.out) hM.out (by rw [HG.out]; exact fun _ _ h => h) (by rw [HG.out]; exact E2.out.symm))
                · intro bf ac wv hfb haf hJ K' hK
                  obtain ⟨vs, rfl, hM, j4⟩ := hJ
                  replace hK := Lib.hid hK
                  replace hM := Lib.hid hM
                  rw [HG.out] at j4
                  simp [Region.binds] at haf
                  have e2 := ((j4 2 (by simp [haf]))).trans E2.out
                  replace j4 := Lib.hid j4
                  clear haf hfb
                  have xg := keep1 hM.out X0.out
                  have xgz := World.block_lt_of_cell? _ _ xg
                  have xgz : b < wv.heap.size := xgz
                  rw [HLIT.out]
                  go_simp
                  exact hK.out _ _ (RS.next (wv := wv) (vs := vs) 3 (x := .slice ua x.length uc) (by rw [HLIT.out]; simp only [upv, e2, Nat.reduceBEq, cond_true, cond_false]) (by rw [HG.out]; exact j4.out) hM.out (by rw [HG.out]; exact fun _ _ h => h) (by rw [HG.out]; exact E3.out.symm))
                · intro bf ac wv hfb haf hJ K' hK
                  obtain ⟨vs, rfl, hM, j4⟩ := hJ
                  replace hK := Lib.hid hK
                  replace hM := Lib.hid hM
                  rw [HG.out] at j4
                  replace j4 := Lib.hid j4
                  clear haf hfb
                  rw [HLIT.out]
                  go_simp
                  exact hK.out _ _ (RS.next (wv := wv) (vs := vs) 4 (x := .slice (some ⟨b, off, none⟩) L.length cap) (by rw [HLIT.out]; rfl) (by rw [HG.out]; exact j4.out) hM.out (by rw [HG.out]; exact fun _ _ h => h) (by rw [HG.out]; exact E4.out.symm))
                · intro bf ac wv hfb haf hJ K' hK
                  obtain ⟨vs, rfl, hM, j4⟩ := hJ
                  replace hK := Lib.hid hK
                  replace hM := Lib.hid hM
                  rw [HG.out] at j4
                  replace j4 := Lib.hid j4
                  clear haf hfb
                  rw [HLIT.out]
                  go_simp
                  exact hK.out _ _ (RS.next (wv := wv) (vs := vs) 5 (x := .int .i64 k) (by rw [HLIT.out]; rfl) (by rw [HG.out]; exact j4.out) hM.out (by rw [HG.out]; exact fun _ _ h => h) (by rw [HG.out]; exact E5.out.symm))
                · intro bf ac wv hfb haf hJ K' hK
                  obtain ⟨vs, rfl, hM, j4⟩ := hJ
                  replace hK := Lib.hid hK
                  replace hM := Lib.hid hM
                  rw [HG.out] at j4
                  simp [Region.binds] at haf
                  have e4 := ((j4 4 (by simp [haf]))).trans E4.out
                  have e5 := ((j4 5 (by simp [haf]))).trans E5.out
                  replace j4 := Lib.hid j4
                  clear haf hfb
                  have hn1 : (k : Int) < L.length := by have := hkl.out; omega
                  have hn2 : (0 : Int) ≤ (k : Int) := by omega
                  have hn3 : k < L.length := hkl.out
                  rw [HLIT.out]
                  go_simp
                  exact hK.out _ _ (RS.next (wv := wv) (vs := vs) 6 (x := .pointer (some ⟨b, off + k, none⟩)) (by rw [HLIT.out]; simp only [upv, e4, e5, Nat.reduceBEq, cond_true, cond_false]) (by rw [HG.out]; exact j4.out) hM.out (by rw [HG.out]; exact fun _ _ h => h) (by rw [HG.out]; exact E6.out.symm))
                · intro bf ac wv hfb haf hJ K' hK
                  obtain ⟨vs, rfl, hM, j4⟩ := hJ
                  replace hK := Lib.hid hK
                  replace hM := Lib.hid hM
                  rw [HG.out] at j4
                  simp [Region.binds] at haf
                  have e6 := ((j4 6 (by simp [haf]))).trans E6.out
                  replace j4 := Lib.hid j4
                  clear haf hfb
                  have xg := keep1 hM.out Y0.out
                  have xgz := World.block_lt_of_cell? _ _ xg
                  have xgz : b < wv.heap.size := xgz
                  rw [HLIT.out]
                  go_simp
                  exact hK.out _ _ (RS.next (wv := wv) (vs := vs) 7 (x := .slice va y.length vc) (by rw [HLIT.out]; simp only [upv, e6, Nat.reduceBEq, cond_true, cond_false]) (by rw [HG.out]; exact j4.out) hM.out (by rw [HG.out]; exact fun _ _ h => h) (by rw [HG.out]; exact E7.out.symm))
                · intro bf ac wv hfb haf hJ K' hK
                  obtain ⟨vs, rfl, hM, j4⟩ := hJ
                  replace hK := Lib.hid hK
                  replace hM := Lib.hid hM
                  rw [HG.out] at j4
                  simp [Region.binds] at haf
                  have e3 := ((j4 3 (by simp [haf]))).trans E3.out
                  have e7 := ((j4 7 (by simp [haf]))).trans E7.out
                  replace j4 := Lib.hid j4
                  clear haf hfb
                  rw [HLIT.out]
                  go_simp
                  go_at_call 21
                  refine (ints_any _ _ x y _ (HU.out.step hM.out) (HV.out.step hM.out)).mono ?_
                  rintro e w4 ⟨rfl, n9, rfl⟩
                  rw [decide_eq_false HE.out]
                  have b4 : Below wv.heap.size wv (wv.drewN n9) := below_drewN' _ _ _
                  exact hK.out _ _ (RS.next (wv := wv) (vs := vs) 8 (x := .bool false) (by rw [HLIT.out]; simp only [upv, e3, e7, Nat.reduceBEq, cond_true, cond_false]) (by rw [HG.out]; exact j4.out) (keep2 b4 hM.out) (by rw [HG.out]; exact fun _ _ h => h) (by rw [HG.out]; exact E8.out.symm))
                · intro bf ac wv hfb haf hJ K' hK
                  obtain ⟨vs, rfl, hM, j4⟩ := hJ
                  replace hK := Lib.hid hK
                  replace hM := Lib.hid hM
                  rw [HG.out] at j4
                  simp [Region.binds] at haf
                  have e8 := ((j4 8 (by simp [haf]))).trans E8.out
                  replace j4 := Lib.hid j4
                  clear haf hfb
                  rw [HLIT.out]
                  go_simp
                  exact hK.out _ _ (RS.next (wv := wv) (vs := vs) 9 (x := .bool true) (by rw [HLIT.out]; simp only [upv, e8, Nat.reduceBEq, cond_true, cond_false]) (by rw [HG.out]; exact j4.out) hM.out (by rw [HG.out]; exact fun _ _ h => h) (by rw [HG.out]; exact E9.out.symm))
                · intro bf ac wv hfb haf hJ K' hK
                  obtain ⟨vs, rfl, hM, j4⟩ := hJ
                  replace hK := Lib.hid hK
                  replace hM := Lib.hid hM
                  rw [HG.out] at j4
                  simp [Region.binds] at haf
                  have e9 := ((j4 9 (by simp [haf]))).trans E9.out
                  replace j4 := Lib.hid j4
                  clear haf hfb
                  rw [HLIT.out]
                  go_simp
                  exact hK.out _ _ (RS.next (wv := wv) (vs := vs) 10 (x := .bool true) (by rw [HLIT.out]; simp only [upv, e9, Nat.reduceBEq, cond_true, cond_false]) (by rw [HG.out]; exact j4.out) hM.out (by rw [HG.out]; exact fun _ _ h => h) (by rw [HG.out]; exact E10.out.symm))
                · intro bf ac wv hfb haf hJ K' hK
                  obtain ⟨vs, rfl, hM, j4⟩ := hJ
                  replace hK := Lib.hid hK
                  replace hM := Lib.hid hM
                  rw [HG.out] at j4
                  simp [Region.binds] at haf
                  have e10 := ((j4 10 (by simp [haf]))).trans E10.out
                  replace j4 := Lib.hid j4
                  clear haf hfb
                  rw [HLIT.out]
                  go_simp
                  exact hK.out _ _ (RS.next (wv := wv) (vs := vs) 11 (x := .slice (some ⟨b, off, none⟩) L.length cap) (by rw [HLIT.out]; simp only [upv, e10, Nat.reduceBEq, cond_true, cond_false]) (by rw [HG.out]; exact j4.out) hM.out (by rw [HG.out]; exact fun _ _ h => h) (by rw [HG.out]; exact E11.out.symm))
                · intro bf ac wv hfb haf hJ K' hK
                  obtain ⟨vs, rfl, hM, j4⟩ := hJ
                  replace hK := Lib.hid hK
                  replace hM := Lib.hid hM
                  rw [HG.out] at j4
                  simp [Region.binds] at haf
                  have e10 := ((j4 10 (by simp [haf]))).trans E10.out
                  replace j4 := Lib.hid j4
                  clear haf hfb
                  rw [HLIT.out]
                  go_simp
                  exact hK.out _ _ (RS.next (wv := wv) (vs := vs) 12 (x := .int .i64 i) (by rw [HLIT.out]; simp only [upv, e10, Nat.reduceBEq, cond_true, cond_false]) (by rw [HG.out]; exact j4.out) hM.out (by rw [HG.out]; exact fun _ _ h => h) (by rw [HG.out]; exact E12.out.symm))
                · intro bf ac wv hfb haf hJ K' hK
                  obtain ⟨vs, rfl, hM, j4⟩ := hJ
                  replace hK := Lib.hid hK
                  replace hM := Lib.hid hM
                  rw [HG.out] at j4
                  simp [Region.binds] at haf
                  have e10 := ((j4 10 (by simp [haf]))).trans E10.out
                  have e11 := ((j4 11 (by simp [haf]))).trans E11.out
                  have e12 := ((j4 12 (by simp [haf]))).trans E12.out
                  replace j4 := Lib.hid j4
                  clear haf hfb
                  have hn1 : (i : Int) < L.length := by have := hlt.out; omega
                  have hn2 : (0 : Int) ≤ (i : Int) := by omega
                  have hn3 : i < L.length := hlt.out
                  rw [HLIT.out]
                  go_simp
                  exact hK.out _ _ (RS.next (wv := wv) (vs := vs) 13 (x := .pointer (some ⟨b, off + i, none⟩)) (by rw [HLIT.out]; simp only [upv, e10, e11, e12, Nat.reduceBEq, cond_true, cond_false]) (by rw [HG.out]; exact j4.out) hM.out (by rw [HG.out]; exact fun _ _ h => h) (by rw [HG.out]; exact E13.out.symm))
                · intro bf ac wv hfb haf hJ K' hK
                  obtain ⟨vs, rfl, hM, j4⟩ := hJ
                  replace hK := Lib.hid hK
                  replace hM := Lib.hid hM
                  rw [HG.out] at j4
                  simp [Region.binds] at haf
                  have e10 := ((j4 10 (by simp [haf]))).trans E10.out
                  have e13 := ((j4 13 (by simp [haf]))).trans E13.out
                  replace j4 := Lib.hid j4
                  clear haf hfb
                  have xg := keep1 hM.out X0.out
                  have xgz := World.block_lt_of_cell? _ _ xg
                  have xgz : b < wv.heap.size := xgz
                  rw [HLIT.out]
                  go_simp
                  exact hK.out _ _ (RS.next (wv := wv) (vs := vs) 14 (x := .slice ua x.length uc) (by rw [HLIT.out]; simp only [upv, e10, e13, Nat.reduceBEq, cond_true, cond_false]) (by rw [HG.out]; exact j4.out) hM.out (by rw [HG.out]; exact fun _ _ h => h) (by rw [HG.out]; exact E14.out.symm))
                · intro bf ac wv hfb haf hJ K' hK
                  obtain ⟨vs, rfl, hM, j4⟩ := hJ
                  replace hK := Lib.hid hK
                  replace hM := Lib.hid hM
                  rw [HG.out] at j4
                  simp [Region.binds] at haf
                  have e10 := ((j4 10 (by simp [haf]))).trans E10.out
                  have e14 := ((j4 14 (by simp [haf]))).trans E14.out
                  replace j4 := Lib.hid j4
                  clear haf hfb
                  rw [HLIT.out]
                  go_simp
                  go_at_call 63
                  refine (rsum_any _ x _ (HU.out.step hM.out)).mono ?_
                  rintro e w4 ⟨rfl, n9, rfl⟩
                  rw [hd1.out]
                  have b4 : Below wv.heap.size wv (wv.drewN n9) := below_drewN' _ _ _
                  exact hK.out _ _ (RS.next (wv := wv) (vs := vs) 15 (x := .int .i64 d1) (by rw [HLIT.out]; simp only [upv, e10, e14, Nat.reduceBEq, cond_true, cond_false]) (by rw [HG.out]; exact j4.out) (keep2 b4 hM.out) (by rw [HG.out]; exact fun _ _ h => h) (by rw [HG.out]; exact E15.out.symm))
                · intro bf ac wv hfb haf hJ K' hK
                  obtain ⟨vs, rfl, hM, j4⟩ := hJ
                  replace hK := Lib.hid hK
                  replace hM := Lib.hid hM
                  rw [HG.out] at j4
                  simp [Region.binds] at haf
                  have e10 := ((j4 10 (by simp [haf]))).trans E10.out
                  replace j4 := Lib.hid j4
                  clear haf hfb
                  rw [HLIT.out]
                  go_simp
                  exact hK.out _ _ (RS.next (wv := wv) (vs := vs) 16 (x := .slice (some ⟨b, off, none⟩) L.length cap) (by rw [HLIT.out]; simp only [upv, e10, Nat.reduceBEq, cond_true, cond_false]) (by rw [HG.out]; exact j4.out) hM.out (by rw [HG.out]; exact fun _ _ h => h) (by rw [HG.out]; exact E16.out.symm))
                · intro bf ac wv hfb haf hJ K' hK
                  obtain ⟨vs, rfl, hM, j4⟩ := hJ
                  replace hK := Lib.hid hK
                  replace hM := Lib.hid hM
                  rw [HG.out] at j4
                  simp [Region.binds] at haf
                  have e10 := ((j4 10 (by simp [haf]))).trans E10.out
                  replace j4 := Lib.hid j4
                  clear haf hfb
                  rw [HLIT.out]
                  go_simp
                  exact hK.out _ _ (RS.next (wv := wv) (vs := vs) 17 (x := .int .i64 k) (by rw [HLIT.out]; simp only [upv, e10, Nat.reduceBEq, cond_true, cond_false]) (by rw [HG.out]; exact j4.out) hM.out (by rw [HG.out]; exact fun _ _ h => h) (by rw [HG.out]; exact E17.out.symm))
                · intro bf ac wv hfb haf hJ K' hK
                  obtain ⟨vs, rfl, hM, j4⟩ := hJ
                  replace hK := Lib.hid hK
                  replace hM := Lib.hid hM
                  rw [HG.out] at j4
                  simp [Region.binds] at haf
                  have e10 := ((j4 10 (by simp [haf]))).trans E10.out
                  have e16 := ((j4 16 (by simp [haf]))).trans E16.out
                  have e17 := ((j4 17 (by simp [haf]))).trans E17.out
                  replace j4 := Lib.hid j4
                  clear haf hfb
                  have hn1 : (k : Int) < L.length := by have := hkl.out; omega
                  have hn2 : (0 : Int) ≤ (k : Int) := by omega
                  have hn3 : k < L.length := hkl.out
                  rw [HLIT.out]
                  go_simp
                  exact hK.out _ _ (RS.next (wv := wv) (vs := vs) 18 (x := .pointer (some ⟨b, off + k, none⟩)) (by rw [HLIT.out]; simp only [upv, e10, e16, e17, Nat.reduceBEq, cond_true, cond_false]) (by rw [HG.out]; exact j4.out) hM.out (by rw [HG.out]; exact fun _ _ h => h) (by rw [HG.out]; exact E18.out.symm))
                · intro bf ac wv hfb haf hJ K' hK
                  obtain ⟨vs, rfl, hM, j4⟩ := hJ
                  replace hK := Lib.hid hK
                  replace hM := Lib.hid hM
                  rw [HG.out] at j4
                  simp [Region.binds] at haf
                  have e10 := ((j4 10 (by simp [haf]))).trans E10.out
                  have e18 := ((j4 18 (by simp [haf]))).trans E18.out
                  replace j4 := Lib.hid j4
                  clear haf hfb
                  have xg := keep1 hM.out Y0.out
                  have xgz := World.block_lt_of_cell? _ _ xg
                  have xgz : b < wv.heap.size := xgz
                  rw [HLIT.out]
                  go_simp
                  exact hK.out _ _ (RS.next (wv := wv) (vs := vs) 19 (x := .slice va y.length vc) (by rw [HLIT.out]; simp only [upv, e10, e18, Nat.reduceBEq, cond_true, cond_false]) (by rw [HG.out]; exact j4.out) hM.out (by rw [HG.out]; exact fun _ _ h => h) (by rw [HG.out]; exact E19.out.symm))
                · intro bf ac wv hfb haf hJ K' hK
                  obtain ⟨vs, rfl, hM, j4⟩ := hJ
                  replace hK := Lib.hid hK
                  replace hM := Lib.hid hM
                  rw [HG.out] at j4
                  simp [Region.binds] at haf
                  have e10 := ((j4 10 (by simp [haf]))).trans E10.out
                  have e19 := ((j4 19 (by simp [haf]))).trans E19.out
                  replace j4 := Lib.hid j4
                  clear haf hfb
                  rw [HLIT.out]
                  go_simp
                  go_at_call 63
                  refine (rsum_any _ y _ (HV.out.step hM.out)).mono ?_
                  rintro e w4 ⟨rfl, n9, rfl⟩
                  rw [hd2.out]
                  have b4 : Below wv.heap.size wv (wv.drewN n9) := below_drewN' _ _ _
                  exact hK.out _ _ (RS.next (wv := wv) (vs := vs) 20 (x := .int .i64 d2) (by rw [HLIT.out]; simp only [upv, e10, e19, Nat.reduceBEq, cond_true, cond_false]) (by rw [HG.out]; exact j4.out) (keep2 b4 hM.out) (by rw [HG.out]; exact fun _ _ h => h) (by rw [HG.out]; exact E20.out.symm))
                · intro bf ac wv hfb haf hJ K' hK
                  obtain ⟨vs, rfl, hM, j4⟩ := hJ
                  replace hK := Lib.hid hK
                  replace hM := Lib.hid hM
                  rw [HG.out] at j4
                  simp [Region.binds] at haf
                  have e10 := ((j4 10 (by simp [haf]))).trans E10.out
                  have e15 := ((j4 15 (by simp [haf]))).trans E15.out
                  have e20 := ((j4 20 (by simp [haf]))).trans E20.out
                  replace j4 := Lib.hid j4
                  clear haf hfb
                  have q1 := HQ.out
                  have q2 : (d1 = d2) = True := by have := HQ.out; simpa using this
                  rw [HLIT.out]
                  go_simp
                  exact hK.out _ _ (RS.next (wv := wv) (vs := vs) 21 (x := .bool true) (by rw [HLIT.out]; simp only [upv, e10, e15, e20, Nat.reduceBEq, cond_true, cond_false]) (by rw [HG.out]; exact j4.out) hM.out (by rw [HG.out]; exact fun _ _ h => h) (by rw [HG.out]; exact E21.out.symm))
                · intro bf ac wv hfb haf hJ K' hK
                  obtain ⟨vs, rfl, hM, j4⟩ := hJ
                  replace hK := Lib.hid hK
                  replace hM := Lib.hid hM
                  rw [HG.out] at j4
                  simp [Region.binds] at haf
                  have e10 := ((j4 10 (by simp [haf]))).trans E10.out
                  have e21 := ((j4 21 (by simp [haf]))).trans E21.out
                  replace j4 := Lib.hid j4
                  clear haf hfb
                  rw [HLIT.out]
                  go_simp
                  exact hK.out _ _ (RS.next (wv := wv) (vs := vs) 22 (x := .bool true) (by rw [HLIT.out]; simp only [upv, e10, e21, Nat.reduceBEq, cond_true, cond_false]) (by rw [HG.out]; exact j4.out) hM.out (by rw [HG.out]; exact fun _ _ h => h) (by rw [HG.out]; exact E22.out.symm))
              · intro bf ac wv hall hJ
                obtain ⟨vs, rfl, hM, j4⟩ := hJ
                rw [HG.out] at j4
                have e22 := ((j4 22 (hall 22 (by decide)))).trans E22.out
                have HB9 := Lib.hid (HB.out.trans (hM.mono HB.out.size))
                clear hM hall j4
                rw [HLIT.out]
                dsimp only
                rw [e22]
                clear e22
                go_wp2
                go_ret
                exact ⟨rfl, HB9.out⟩
            · have HQ := Lib.hid (show (d1 == d2) = false by simpa using hd)
              have HF2 := Lib.hid (HF.out (fun h => hd (HD.out.1 h).2))
              have HE := Lib.hid he
              clear he hd HF HD
              replace hlt := Lib.hid hlt
              replace hkl := Lib.hid hkl
              obtain ⟨lit, hlit⟩ : ∃ lit : (Nat → Value) → Act, lit = fun vs => { tmps := List.toArray (Value.slice (some { block := b, off := off }) L.length cap :: undef :: u2 :: Value.int IntKind.i64 (i : Int) :: Value.int IntKind.i64 (k : Int) :: Value.int IntKind.i64 (i : Int) :: Value.slice (some { block := b, off := off }) L.length cap :: Value.int IntKind.i64 (L.length : Int) :: Value.bool true :: u9 :: u10 :: Value.int IntKind.i64 (k : Int) :: Value.int IntKind.i64 (i : Int) :: Value.bool true :: u14 :: u15 :: vs 0 :: vs 1 :: vs 2 :: vs 3 :: vs 4 :: vs 5 :: vs 6 :: vs 7 :: vs 8 :: vs 9 :: vs 10 :: vs 11 :: vs 12 :: vs 13 :: vs 14 :: vs 15 :: vs 16 :: vs 17 :: vs 18 :: vs 19 :: vs 20 :: vs 21 :: vs 22 :: []), defers := [] } := ⟨_, rfl⟩
              have HLIT := Lib.hid hlit
              clear hlit
              obtain ⟨val, hval⟩ : ∃ val : List Value, val = [.slice (some ⟨b, off, none⟩) L.length cap, .int .i64 i, .pointer (some ⟨b, off + i, none⟩), .slice ua x.length uc, .slice (some ⟨b, off, none⟩) L.length cap, .int .i64 k, .pointer (some ⟨b, off + k, none⟩), .slice va y.length vc, .bool false, .bool true, .bool true, .slice (some ⟨b, off, none⟩) L.length cap, .int .i64 i, .pointer (some ⟨b, off + i, none⟩), .slice ua x.length uc, .int .i64 d1, .slice (some ⟨b, off, none⟩) L.length cap, .int .i64 k, .pointer (some ⟨b, off + k, none⟩), .slice va y.length vc, .int .i64 d2, .bool false, .bool false] := ⟨_, rfl⟩
              have E0 := Lib.hid (show val.getD 0 undef = .slice (some ⟨b, off, none⟩) L.length cap by rw [hval]; rfl)
              have E1 := Lib.hid (show val.getD 1 undef = .int .i64 i by rw [hval]; rfl)
              have E2 := Lib.hid (show val.getD 2 undef = .pointer (some ⟨b, off + i, none⟩) by rw [hval]; rfl)
              have E3 := Lib.hid (show val.getD 3 undef = .slice ua x.length uc by rw [hval]; rfl)
              have E4 := Lib.hid (show val.getD 4 undef = .slice (some ⟨b, off, none⟩) L.length cap by rw [hval]; rfl)
              have E5 := Lib.hid (show val.getD 5 undef = .int .i64 k by rw [hval]; rfl)
              have E6 := Lib.hid (show val.getD 6 undef = .pointer (some ⟨b, off + k, none⟩) by rw [hval]; rfl)
              have E7 := Lib.hid (show val.getD 7 undef = .slice va y.length vc by rw [hval]; rfl)
              have E8 := Lib.hid (show val.getD 8 undef = .bool false by rw [hval]; rfl)
              have E9 := Lib.hid (show val.getD 9 undef = .bool true by rw [hval]; rfl)
              have E10 := Lib.hid (show val.getD 10 undef = .bool true by rw [hval]; rfl)
              have E11 := Lib.hid (show val.getD 11 undef = .slice (some ⟨b, off, none⟩) L.length cap by rw [hval]; rfl)
              have E12 := Lib.hid (show val.getD 12 undef = .int .i64 i by rw [hval]; rfl)
              have E13 := Lib.hid (show val.getD 13 undef = .pointer (some ⟨b, off + i, none⟩) by rw [hval]; rfl)
              have E14 := Lib.hid (show val.getD 14 undef = .slice ua x.length uc by rw [hval]; rfl)
              have E15 := Lib.hid (show val.getD 15 undef = .int .i64 d1 by rw [hval]; rfl)
              have E16 := Lib.hid (show val.getD 16 undef = .slice (some ⟨b, off, none⟩) L.length cap by rw [hval]; rfl)
              have E17 := Lib.hid (show val.getD 17 undef = .int .i64 k by rw [hval]; rfl)
              have E18 := Lib.hid (show val.getD 18 undef = .pointer (some ⟨b, off + k, none⟩) by rw [hval]; rfl)
              have E19 := Lib.hid (show val.getD 19 undef = .slice va y.length vc by rw [hval]; rfl)
              have E20 := Lib.hid (show val.getD 20 undef = .int .i64 d2 by rw [hval]; rfl)
              have E21 := Lib.hid (show val.getD 21 undef = .bool false by rw [hval]; rfl)
              have E22 := Lib.hid (show val.getD 22 undef = .bool false by rw [hval]; rfl)
              clear hval
              obtain ⟨G, hG0⟩ : ∃ G : Nat → Value → World → Prop, G = (fun i v w => (v = val.getD i undef)) := ⟨_, rfl⟩
              have HG := Lib.hid hG0
              clear hG0
              refine region_inv (RS lit wr G) (by kernel_rfl) (by decide +kernel) ?_ ?_ ?_
              · exact ⟨fun i => ([u16, u17, u18, u19, u20, u21, u22, u23, u24, u25, u26, u27, u28, u29, u30, u31, u32, u33, u34, u35, u36, u37, u38] : List Value).getD i undef, (by rw [HLIT.out]; rfl), below_drew _ _, fun i h => by cases h⟩
              · refine ⟨?_, ?_, ?_, ?_, ?_, ?_, ?_, ?_, ?_, ?_, ?_, ?_, ?_, ?_, ?_, ?_, ?_, ?_, ?_, ?_, ?_, ?_, ?_, trivial⟩
                · intro bf ac wv hfb haf hJ K' hK
                  obtain ⟨vs, rfl, hM, j4⟩ := hJ
                  replace hK := Lib.hid hK
                  replace hM := Lib.hid hM
                  rw [HG.out] at j4
                  replace j4 := Lib.hid j4
                  clear haf hfb
                  rw [HLIT.out]
                  go_simp
                  exact hK.out _ _ (RS.next (wv := wv) (vs := vs) 0 (x := .slice (some ⟨b, off, none⟩) L.length cap) (by rw [HLIT.out]; rfl) (by rw [HG.out]; exact j4.out) hM.out (by rw [HG.out]; exact fun _ _ h => h) (by rw [HG.out]; exact E0.out.symm))
                · intro bf ac wv hfb haf hJ K' hK
                  obtain ⟨vs, rfl, hM, j4⟩ := hJ
                  replace hK := Lib.hid hK
                  replace hM := Lib.hid hM
                  rw [HG.out] at j4
                  replace j4 := Lib.hid j4
                  clear haf hfb
                  rw [HLIT.out]
                  go_simp
                  exact hK.out _ _ (RS.next (wv := wv) (vs := vs) 1 (x := .int .i64 i) (by rw [HLIT.out]; rfl) (by rw [HG.out]; exact j4.out) hM.out (by rw [HG.out]; exact fun _ _ h => h) (by rw [HG.out]; exact E1.out.symm))
                · intro bf ac wv hfb haf hJ K' hK
                  obtain ⟨vs, rfl, hM, j4⟩ := hJ
                  replace hK := Lib.hid hK
                  replace hM := Lib.hid hM
                  rw [HG.out] at j4
                  simp [Region.binds] at haf
                  have e0 := ((j4 0 (by simp [haf]))).trans E0.out
                  have e1 := ((j4 1 (by simp [haf]))).trans E1.out
                  replace j4 := Lib.hid j4
                  clear haf hfb
                  have hn1 : (i : Int) < L.length := by have := hlt.out; omega
                  have hn2 : (0 : Int) ≤ (i : Int) := by omega
                  have hn3 : i < L.length := hlt.out
                  rw [HLIT.out]
                  go_simp
                  exact hK.out _ _ (RS.next (wv := wv) (vs := vs) 2 (x := .pointer (some ⟨b, off + i, none⟩)) (by rw [HLIT.out]; simp only [upv, e0, e1, Nat.reduceBEq, cond_true, cond_false]) (by rw [HG.out]; exact j4.out) hM.out (by rw [HG.out]; exact fun _ _ h => h) (by rw [HG.out]; exact E2.out.symm))
                · intro bf ac wv hfb haf hJ K' hK
                  obtain ⟨vs, rfl, hM, j4⟩ := hJ
                  replace hK := Lib.hid hK
                  replace hM := Lib.hid hM
                  rw [HG.out] at j4
                  simp [Region.binds] at haf
                  have e2 := ((j4 2 (by simp [haf]))).trans E2.out
                  replace j4 := Lib.hid j4
                  clear haf hfb
                  have xg := keep1 hM.out X0.out
                  have xgz := World.block_lt_of_cell? _ _ xg
                  have xgz : b < wv.heap.size := xgz
                  rw [HLIT.out]
                  go_simp
                  exact hK.out _ _ (RS.next (wv := wv) (vs := vs) 3 (x := .slice ua x.length uc) (by rw [HLIT.out]; simp only [upv, e2, Nat.reduceBEq, cond_true, cond_false]) (by rw [HG.out]; exact j4.out) hM.out (by rw [HG.out]; exact fun _ _ h => h) (by rw [HG.out]; exact E3.out.symm))
                · intro bf ac wv hfb haf hJ K' hK
                  obtain ⟨vs, rfl, hM, j4⟩ := hJ
                  replace hK := Lib.hid hK
                  replace hM := Lib.hid hM
                  rw [HG.out] at j4
                  replace j4 := Lib.hid j4
                  clear haf hfb
                  rw [HLIT.out]
                  go_simp
                  exact hK.out _ _ (RS.next (wv := wv) (vs := vs) 4 (x := .slice (some ⟨b, off, none⟩) L.length cap) (by rw [HLIT.out]; rfl) (by rw [HG.out]; exact j4.out) hM.out (by rw [HG.out]; exact fun _ _ h => h) (by rw [HG.out]; exact E4.out.symm))
                · intro bf ac wv hfb haf hJ K' hK
                  obtain ⟨vs, rfl, hM, j4⟩ := hJ
                  replace hK := Lib.hid hK
                  replace hM := Lib.hid hM
                  rw [HG.out] at j4
                  replace j4 := Lib.hid j4
                  clear haf hfb
                  rw [HLIT.out]
                  go_simp
                  exact hK.out _ _ (RS.next (wv := wv) (vs := vs) 5 (x := .int .i64 k) (by rw [HLIT.out]; rfl) (by rw [HG.out]; exact j4.out) hM.out (by rw [HG.out]; exact fun _ _ h => h) (by rw [HG.out]; exact E5.out.symm))
                · intro bf ac wv hfb haf hJ K' hK
                  obtain ⟨vs, rfl, hM, j4⟩ := hJ
                  replace hK := Lib.hid hK
                  replace hM := Lib.hid hM
                  rw [HG.out] at j4
                  simp [Region.binds] at haf
                  have e4 := ((j4 4 (by simp [haf]))).trans E4.out
                  have e5 := ((j4 5 (by simp [haf]))).trans E5.out
                  replace j4 := Lib.hid j4
                  clear haf hfb
                  have hn1 : (k : Int) < L.length := by have := hkl.out; omega
                  have hn2 : (0 : Int) ≤ (k : Int) := by omega
                  have hn3 : k < L.length := hkl.out
                  rw [HLIT.out]
                  go_simp
                  exact hK.out _ _ (RS.next (wv := wv) (vs := vs) 6 (x := .pointer (some ⟨b, off + k, none⟩)) (by rw [HLIT.out]; simp only [upv, e4, e5, Nat.reduceBEq, cond_true, cond_false]) (by rw [HG.out]; exact j4.out) hM.out (by rw [HG.out]; exact fun _ _ h => h) (by rw [HG.out]; exact E6.out.symm))
                · intro bf ac wv hfb haf hJ K' hK
                  obtain ⟨vs, rfl, hM, j4⟩ := hJ
                  replace hK := Lib.hid hK
                  replace hM := Lib.hid hM
                  rw [HG.out] at j4
                  simp [Region.binds] at haf
                  have e6 := ((j4 6 (by simp [haf]))).trans E6.out
                  replace j4 := Lib.hid j4
                  clear haf hfb
                  have xg := keep1 hM.out Y0.out
                  have xgz := World.block_lt_of_cell? _ _ xg
                  have xgz : b < wv.heap.size := xgz
                  rw [HLIT.out]
                  go_simp
                  exact hK.out _ _ (RS.next (wv := wv) (vs := vs) 7 (x := .slice va y.length vc) (by rw [HLIT.out]; simp only [upv, e6, Nat.reduceBEq, cond_true, cond_false]) (by rw [HG.out]; exact j4.out) hM.out (by rw [HG.out]; exact fun _ _ h => h) (by rw [HG.out]; exact E7.out.symm))
                · intro bf ac wv hfb haf hJ K' hK
                  obtain ⟨vs, rfl, hM, j4⟩ := hJ
                  replace hK := Lib.hid hK
                  replace hM := Lib.hid hM
                  rw [HG.out] at j4
                  simp [Region.binds] at haf
                  have e3 := ((j4 3 (by simp [haf]))).trans E3.out
                  have e7 := ((j4 7 (by simp [haf]))).trans E7.out
                  replace j4 := Lib.hid j4
                  clear haf hfb
                  rw [HLIT.out]
                  go_simp
                  go_at_call 21
                  refine (ints_any _ _ x y _ (HU.out.step hM.out) (HV.out.step hM.out)).mono ?_
                  rintro e w4 ⟨rfl, n9, rfl⟩
                  rw [decide_eq_false HE.out]
                  have b4 : Below wv.heap.size wv (wv.drewN n9) := below_drewN' _ _ _
                  exact hK.out _ _ (RS.next (wv := wv) (vs := vs) 8 (x := .bool false) (by rw [HLIT.out]; simp only [upv, e3, e7, Nat.reduceBEq, cond_true, cond_false]) (by rw [HG.out]; exact j4.out) (keep2 b4 hM.out) (by rw [HG.out]; exact fun _ _ h => h) (by rw [HG.out]; exact E8.out.symm))
                · intro bf ac wv hfb haf hJ K' hK
                  obtain ⟨vs, rfl, hM, j4⟩ := hJ
                  replace hK := Lib.hid hK
                  replace hM := Lib.hid hM
                  rw [HG.out] at j4
                  simp [Region.binds] at haf
                  have e8 := ((j4 8 (by simp [haf]))).trans E8.out
                  replace j4 := Lib.hid j4
                  clear haf hfb
                  rw [HLIT.out]
                  go_simp
                  exact hK.out _ _ (RS.next (wv := wv) (vs := vs) 9 (x := .bool true) (by rw [HLIT.out]; simp only [upv, e8, Nat.reduceBEq, cond_true, cond_false]) (by rw [HG.out]; exact j4.out) hM.out (by rw [HG.out]; exact fun _ _ h => h) (by rw [HG.out]; exact E9.out.symm))
                · intro bf ac wv hfb haf hJ K' hK
                  obtain ⟨vs, rfl, hM, j4⟩ := hJ
                  replace hK := Lib.hid hK
                  replace hM := Lib.hid hM
                  rw [HG.out] at j4
                  simp [Region.binds] at haf
                  have e9 := ((j4 9 (by simp [haf]))).trans E9.out
                  replace j4 := Lib.hid j4
                  clear haf hfb
                  rw [HLIT.out]
                  go_simp
                  exact hK.out _ _ (RS.next (wv := wv) (vs := vs) 10 (x := .bool true) (by rw [HLIT.out]; simp only [upv, e9, Nat.reduceBEq, cond_true, cond_false]) (by rw [HG.out]; exact j4.out) hM.out (by rw [HG.out]; exact fun _ _ h => h) (by rw [HG.out]; exact E10.out.symm))
                · intro bf ac wv hfb haf hJ K' hK
                  obtain ⟨vs, rfl, hM, j4⟩ := hJ
                  replace hK := Lib.hid hK
                  replace hM := Lib.hid hM
                  rw [HG.out] at j4
                  simp [Region.binds] at haf
                  have e10 := ((j4 10 (by simp [haf]))).trans E10.out
                  replace j4 := Lib.hid j4
                  clear haf hfb
                  rw [HLIT.out]
                  go_simp
                  exact hK.out _ _ (RS.next (wv := wv) (vs := vs) 11 (x := .slice (some ⟨b, off, none⟩) L.length cap) (by rw [HLIT.out]; simp only [upv, e10, Nat.reduceBEq, cond_true, cond_false]) (by rw [HG.out]; exact j4.out) hM.out (by rw [HG.out]; exact fun _ _ h => h) (by rw [HG.out]; exact E11.out.symm))
                · intro bf ac wv hfb haf hJ K' hK
                  obtain ⟨vs, rfl, hM, j4⟩ := hJ
                  replace hK := Lib.hid hK
                  replace hM := Lib.hid hM
                  rw [HG.out] at j4
                  simp [Region.binds] at haf
                  have e10 := ((j4 10 (by simp [haf]))).trans E10.out
                  replace j4 := Lib.hid j4
                  clear haf hfb
                  rw [HLIT.out]
                  go_simp
                  exact hK.out _ _ (RS.next (wv := wv) (vs := vs) 12 (x := .int .i64 i) (by rw [HLIT.out]; simp only [upv, e10, Nat.reduceBEq, cond_true, cond_false]) (by rw [HG.out]; exact j4.out) hM.out (by rw [HG.out]; exact fun _ _ h => h) (by rw [HG.out]; exact E12.out.symm))
                · intro bf ac wv hfb haf hJ K' hK
                  obtain ⟨vs, rfl, hM, j4⟩ := hJ
                  replace hK := Lib.hid hK
                  replace hM := Lib.hid hM
                  rw [HG.out] at j4
                  simp [Region.binds] at haf
                  have e10 := ((j4 10 (by simp [haf]))).trans E10.out
                  have e11 := ((j4 11 (by simp [haf]))).trans E11.out
                  have e12 := ((j4 12 (by simp [haf]))).trans E12.out
                  replace j4 := Lib.hid j4
                  clear haf hfb
                  have hn1 : (i : Int) < L.length := by have := hlt.out; omega
                  have hn2 : (0 : Int) ≤ (i : Int) := by omega
                  have hn3 : i < L.length := hlt.out
                  rw [HLIT.out]
                  go_simp
                  exact hK.out _ _ (RS.next (wv := wv) (vs := vs) 13 (x := .pointer (some ⟨b, off + i, none⟩)) (by rw [HLIT.out]; simp only [upv, e10, e11, e12, Nat.reduceBEq, cond_true, cond_false]) (by rw [HG.out]; exact j4.out) hM.out (by rw [HG.out]; exact fun _ _ h => h) (by rw [HG.out]; exact E13.out.symm))
                · intro bf ac wv hfb haf hJ K' hK
                  obtain ⟨vs, rfl, hM, j4⟩ := hJ
                  replace hK := Lib.hid hK
                  replace hM := Lib.hid hM
                  rw [HG.out] at j4
                  simp [Region.binds] at haf
                  have e10 := ((j4 10 (by simp [haf]))).trans E10.out
                  have e13 := ((j4 13 (by simp [haf]))).trans E13.out
                  replace j4 := Lib.hid j4
                  clear haf hfb
                  have xg := keep1 hM.out X0.out
                  have xgz := World.block_lt_of_cell? _ _ xg
                  have xgz : b < wv.heap.size := xgz
                  rw [HLIT.out]
                  go_simp
                  exact hK.out _ _ (RS.next (wv := wv) (vs := vs) 14 (x := .slice ua x.length uc) (by rw [HLIT.out]; simp only [upv, e10, e13, Nat.reduceBEq, cond_true, cond_false]) (by rw [HG.out]; exact j4.out) hM.out (by rw [HG.out]; exact fun _ _ h => h) (by rw [HG.out]; exact E14.out.symm))
                · intro bf ac wv hfb haf hJ K' hK
                  obtain ⟨vs, rfl, hM, j4⟩ := hJ
                  replace hK := Lib.hid hK
                  replace hM := Lib.hid hM
                  rw [HG.out] at j4
                  simp [Region.binds] at haf
                  have e10 := ((j4 10 (by simp [haf]))).trans E10.out
                  have e14 := ((j4 14 (by simp [haf]))).trans E14.out
                  replace j4 := Lib.hid j4
                  clear haf hfb
                  rw [HLIT.out]
                  go_simp
                  go_at_call 63
                  refine (rsum_any _ x _ (HU.out.step hM.out)).mono ?_
                  rintro e w4 ⟨rfl, n9, rfl⟩
                  rw [hd1.out]
                  have b4 : Below wv.heap.size wv (wv.drewN n9) := below_drewN' _ _ _
                  exact hK.out _ _ (RS.next (wv := wv) (vs := vs) 15 (x := .int .i64 d1) (by rw [HLIT.out]; simp only [upv, e10, e14, Nat.reduceBEq, cond_true, cond_false]) (by rw [HG.out]; exact j4.out) (keep2 b4 hM.out) (by rw [HG.out]; exact fun _ _ h => h) (by rw [HG.out]; exact E15.out.symm))
                · intro bf ac wv hfb haf hJ K' hK
                  obtain ⟨vs, rfl, hM, j4⟩ := hJ
                  replace hK := Lib.hid hK
                  replace hM := Lib.hid hM
                  rw [HG.out] at j4
                  simp [Region.binds] at haf
                  have e10 := ((j4 10 (by simp [haf]))).trans E10.out
                  replace j4 := Lib.hid j4
                  clear haf hfb
                  rw [HLIT.out]
                  go_simp
                  exact hK.out _ _ (RS.next (wv := wv) (vs := vs) 16 (x := .slice (some ⟨b, off, none⟩) L.length cap) (by rw [HLIT.out]; simp only [upv, e10, Nat.reduceBEq, cond_true, cond_false]) (by rw [HG.out]; exact j4.out) hM.out (by rw [HG.out]; exact fun _ _ h => h) (by rw [HG.out]; exact E16.out.symm))
                · intro bf ac wv hfb haf hJ K' hK
                  obtain ⟨vs, rfl, hM, j4⟩ := hJ
                  replace hK := Lib.hid hK
                  replace hM := Lib.hid hM
                  rw [HG.out] at j4
                  simp [Region.binds] at haf
                  have e10 := ((j4 10 (by simp [haf]))).trans E10.out
                  replace j4 := Lib.hid j4
                  clear haf hfb
                  rw [HLIT.out]
                  go_simp
                  exact hK.out _ _ (RS.next (wv := wv) (vs := vs) 17 (x := .int .i64 k) (by rw [HLIT.out]; simp only [upv, e10, Nat.reduceBEq, cond_true, cond_false]) (by rw [HG.out]; exact j4.out) hM.out (by rw [HG.out]; exact fun _ _ h => h) (by rw [HG.out]; exact E17.out.symm))
                · intro bf ac wv hfb haf hJ K' hK
                  obtain ⟨vs, rfl, hM, j4⟩ := hJ
                  replace hK := Lib.hid hK
                  replace hM := Lib.hid hM
                  rw [HG.out] at j4
                  simp [Region.binds] at haf
                  have e10 := ((j4 10 (by simp [haf]))).trans E10.out
                  have e16 := ((j4 16 (by simp [haf]))).trans E16.out
                  have e17 := ((j4 17 (by simp [haf]))).trans E17.out
                  replace j4 := Lib.hid j4
                  clear haf hfb
                  have hn1 : (k : Int) < L.length := by have := hkl.out; omega
                  have hn2 : (0 : Int) ≤ (k : Int) := by omega
                  have hn3 : k < L.length := hkl.out
                  rw [HLIT.out]
                  go_simp
                  exact hK.out _ _ (RS.next (wv := wv) (vs := vs) 18 (x := .pointer (some ⟨b, off + k, none⟩)) (by rw [HLIT.out]; simp only [upv, e10, e16, e17, Nat.reduceBEq, cond_true, cond_false]) (by rw [HG.out]; exact j4.out) hM.out (by rw [HG.out]; exact fun _ _ h => h) (by rw [HG.out]; exact E18.out.symm))
                · intro bf ac wv hfb haf hJ K' hK
                  obtain ⟨vs, rfl, hM, j4⟩ := hJ
                  replace hK := Lib.hid hK
                  replace hM := Lib.hid hM
                  rw [HG.out] at j4
                  simp [Region.binds] at haf
                  have e10 := ((j4 10 (by simp [haf]))).trans E10.out
                  have e18 := ((j4 18 (by simp [haf]))).trans E18.out
                  replace j4 := Lib.hid j4
                  clear haf hfb
                  have xg := keep1 hM.out Y0.out
                  have xgz := World.block_lt_of_cell? _ _ xg
                  have xgz : b < wv.heap.size := xgz
                  rw [HLIT.out]
                  go_simp
                  exact hK.out _ _ (RS.next (wv := wv) (vs := vs) 19 (x := .slice va y.length vc) (by rw [HLIT.out]; simp only [upv, e10, e18, Nat.reduceBEq, cond_true, cond_false]) (by rw [HG.out]; exact j4.out) hM.out (by rw [HG.out]; exact fun _ _ h => h) (by rw [HG.out]; exact E19.out.symm))
                · intro bf ac wv hfb haf hJ K' hK
                  obtain ⟨vs, rfl, hM, j4⟩ := hJ
                  replace hK := Lib.hid hK
                  replace hM := Lib.hid hM
                  rw [HG.out] at j4
                  simp [Region.binds] at haf
                  have e10 := ((j4 10 (by simp [haf]))).trans E10.out
                  have e19 := ((j4 19 (by simp [haf]))).trans E19.out
                  replace j4 := Lib.hid j4
                  clear haf hfb
                  rw [HLIT.out]
                  go_simp
                  go_at_call 63
                  refine (rsum_any _ y _ (HV.out.step hM.out)).mono ?_
                  rintro e w4 ⟨rfl, n9, rfl⟩
                  rw [hd2.out]
                  have b4 : Below wv.heap.size wv (wv.drewN n9) := below_drewN' _ _ _
                  exact hK.out _ _ (RS.next (wv := wv) (vs := vs) 20 (x := .int .i64 d2) (by rw [HLIT.out]; simp only [upv, e10, e19, Nat.reduceBEq, cond_true, cond_false]) (by rw [HG.out]; exact j4.out) (keep2 b4 hM.out) (by rw [HG.out]; exact fun _ _ h => h) (by rw [HG.out]; exact E20.out.symm))
                · intro bf ac wv hfb haf hJ K' hK
                  obtain ⟨vs, rfl, hM, j4⟩ := hJ
                  replace hK := Lib.hid hK
                  replace hM := Lib.hid hM
                  rw [HG.out] at j4
                  simp [Region.binds] at haf
                  have e10 := ((j4 10 (by simp [haf]))).trans E10.out
                  have e15 := ((j4 15 (by simp [haf]))).trans E15.out
                  have e20 := ((j4 20 (by simp [haf]))).trans E20.out
                  replace j4 := Lib.hid j4
                  clear haf hfb
                  have q1 := HQ.out
                  have q2 : (d1 = d2) = False := by have := HQ.out; simpa using this
                  rw [HLIT.out]
                  go_simp
                  exact hK.out _ _ (RS.next (wv := wv) (vs := vs) 21 (x := .bool false) (by rw [HLIT.out]; simp only [upv, e10, e15, e20, Nat.reduceBEq, cond_true, cond_false]) (by rw [HG.out]; exact j4.out) hM.out (by rw [HG.out]; exact fun _ _ h => h) (by rw [HG.out]; exact E21.out.symm))
                · intro bf ac wv hfb haf hJ K' hK
                  obtain ⟨vs, rfl, hM, j4⟩ := hJ
                  replace hK := Lib.hid hK
                  replace hM := Lib.hid hM
                  rw [HG.out] at j4
                  simp [Region.binds] at haf
                  have e10 := ((j4 10 (by simp [haf]))).trans E10.out
                  have e21 := ((j4 21 (by simp [haf]))).trans E21.out
                  replace j4 := Lib.hid j4
                  clear haf hfb
                  rw [HLIT.out]
                  go_simp
                  exact hK.out _ _ (RS.next (wv := wv) (vs := vs) 22 (x := .bool false) (by rw [HLIT.out]; simp only [upv, e10, e21, Nat.reduceBEq, cond_true, cond_false]) (by rw [HG.out]; exact j4.out) hM.out (by rw [HG.out]; exact fun _ _ h => h) (by rw [HG.out]; exact E22.out.symm))
              · intro bf ac wv hall hJ
                obtain ⟨vs, rfl, hM, j4⟩ := hJ
                rw [HG.out] at j4
                have e22 := ((j4 22 (hall 22 (by decide)))).trans E22.out
                have HB9 := Lib.hid (HB.out.trans (hM.mono HB.out.size))
                clear hM hall j4
                rw [HLIT.out]
                dsimp only
                rw [e22]
                clear e22
                go_wp2
                go_roundw
                case rel => exact ⟨k + 1, hlk, by first | rfl | go_num, HF2, HB9⟩
                case measure => simp [intOf]; omega
        · have hki : k = i := by omega
          have HN2 := Lib.hid (show ∀ p q, p < i + 1 → q < p → ¬ cdB L p q from fun p q h1 h2 => by
            by_cases e : p = i
            · subst e; exact HK.out q (by omega)
            · exact HN.out p q (by omega) h2)
          have hlk2 : ¬ (k : Int) < i := by omega
          go_wp2
          go_roundw
          case rel => exact ⟨i + 1, hlt, by first | rfl | go_num, HN2, HB⟩
          case measure => simp [intOf]; omega
    · exfalso
      obtain ⟨p, q, h1, h2, h3⟩ := HC.out
      exact HN.out p q (by omega) h1 h3
end Go.Proofs.Yteodafhgfcbdpaa
