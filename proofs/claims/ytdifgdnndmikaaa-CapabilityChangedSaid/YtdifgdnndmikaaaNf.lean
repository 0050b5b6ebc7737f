/- Capabilities: two lists of the same digest are found. -/
import Derived.Test.YtdifgdnndmikaaaNe
import Derived.Test.YtdifgdnndmikaaaKy
namespace Go.Proofs.Ytdifgdnndmikaaa
open Go.RowKit

/-- Two different lists of the same digest. -/
def cdB (L : List (List Int)) (i j : Nat) : Prop := L.getD i [] ≠ L.getD j [] ∧ Dg (L.getD i []) = Dg (L.getD j [])
def Cld (L : List (List Int)) : Prop := ∃ i j, i < L.length ∧ j < L.length ∧ cdB L i j
theorem Cld.sorted {L : List (List Int)} (h : Cld L) : ∃ i j, j < i ∧ i < L.length ∧ cdB L i j := by
  obtain ⟨i, j, hi, hj, hn, hd⟩ := h
  by_cases e : j < i
  · exact ⟨i, j, e, hi, hn, hd⟩
  · have hne : i ≠ j := fun e => hn (by rw [e])
    exact ⟨j, i, by omega, hj, Ne.symm hn, hd.symm⟩
theorem els_at {w : World} {ex : Option Nat} {zs : List Value} {L : List (List Int)} {base n g cap : Nat} (hr : w.ownsRow base 37 1 (.slice (some ⟨g, 0, none⟩) n cap) n zs) (hE : ELs w ex zs L) (hn : n = L.length) {i : Nat} (hi : i < n) : ∃ g2 n2 c2, w.cell? ⟨g, i, none⟩ = some (.slice (some ⟨g2, 0, none⟩) n2 c2) ∧ IntsAt w (.slice (some ⟨g2, 0, none⟩) n2 c2) (L.getD i []) := by
  obtain ⟨sv, h1, h2⟩ := hE.get (show i < L.length by omega)
  have h3 := hr.cellAt i (by omega)
  rw [h1] at h3
  obtain ⟨g2, n2, c2, cur, rfl, -, h4⟩ := h2
  refine ⟨g2, n2, c2, h3, ?_⟩
  rwa [show L.getD i [] = L[i]'(by omega) by simp [show i < L.length by omega]]
set_option maxRecDepth 100000 in
set_option maxHeartbeats 4000000 in
theorem collide_yes (z : Value) (zs : List Value) (L : List (List Int)) (base : Nat) (ex : Option Nat) (w : World) (hr : w.ownsRow base 37 1 z L.length zs) (hE : ELs w ex zs L) (hL : L.length ≤ 100) (hc : Cld L) : Calls Try.prog 26 #[z] w fun e w' => e = .returned (.bool true) ∧ Below w.heap.size w w' := by
  have HC := Lib.hid hc.sorted
  obtain ⟨i0, j0, hi0, -⟩ := hc
  obtain ⟨g, cap, rfl, -, hgl⟩ := hr.form (by omega)
  have HR := Lib.hid hr
  have HX := Lib.hid hE
  obtain ⟨n, hn⟩ : ∃ n, L.length = n := ⟨_, rfl⟩
  rw [hn] at HR hL ⊢
  replace hn := Lib.hid hn
  clear hr hE hi0
  go_enter Try.func26, Try.ntmps26
  go_wp2_with fail
  go_loopw [3] (fun iv wr => ∃ i : Nat, i ≤ n ∧ iv = .int .i64 i ∧ Hid (∀ i' k', i' < i → k' < i' → ¬ cdB L i' k') ∧ Hid (Below w.heap.size w wr)) (fun iv _ => n - (intOf iv).toNat)
  case atStart => exact ⟨0, by omega, rfl, fun i' k' h _ => absurd h (by omega), Below.refl _ _⟩
  case round =>
    obtain ⟨i, hi, rfl, HN, HB⟩ := hrel
    by_cases hlt : i < n
    · go_wp2_with fail
      go_loopw [4] (fun kv wr => ∃ k : Nat, k ≤ i ∧ kv = .int .i64 k ∧ Hid (∀ k', k' < k → ¬ cdB L i k') ∧ Hid (Below w.heap.size w wr)) (fun kv _ => i - (intOf kv).toNat)
      case atStart => exact ⟨0, by omega, rfl, fun k' h => absurd h (by omega), HB.out⟩
      case round =>
        clear HB
        obtain ⟨k, hk, rfl, HK, HB⟩ := hrel
        by_cases hlk : k < i
        · obtain ⟨gi, ni, ci, xi, hii⟩ := els_at (row_step HR.out HB.out) (HX.out.step HB.out) hn.out.symm hlt
          obtain ⟨gk, nk, ck, xk, hik⟩ := els_at (row_step HR.out HB.out) (HX.out.step HB.out) hn.out.symm (show k < n by omega)
          have XI := Lib.hid xi
          have XK := Lib.hid xk
          have HII := Lib.hid hii
          have HIK := Lib.hid hik
          clear xi xk hii hik
          have HD := Lib.hid (show ¬ cdB L i k → ∀ k', k' < k + 1 → ¬ cdB L i k' from fun h k' h2 => by
            by_cases e : k' = k
            · subst e; exact h
            · exact HK.out k' (by omega))
          have HQ := Lib.hid (show cdB L i k ↔ L.getD i [] ≠ L.getD k [] ∧ Dg (L.getD i []) = Dg (L.getD k []) from Iff.rfl)
          generalize L.getD i [] = li at *
          generalize L.getD k [] = lk at *
          obtain ⟨d1, hd1⟩ : ∃ d, Dg li = d := ⟨_, rfl⟩
          obtain ⟨d2, hd2⟩ : ∃ d, Dg lk = d := ⟨_, rfl⟩
          rw [hd1, hd2] at HQ
          replace hd1 := Lib.hid hd1
          replace hd2 := Lib.hid hd2
          replace hgl := Lib.hid (Nat.lt_of_lt_of_le hgl HB.out.size)
          have bi : (i : Int) < n := by omega
          have bk : (k : Int) < n := by omega
          by_cases hb : li = lk
          · skip
            replace hb := Lib.hid hb
            have HF := Lib.hid (HD.out (fun h => (HQ.out.1 h).1 hb.out))
            go_wp2_with fail
            obtain ⟨lit, hlit⟩ : ∃ lit : (Nat → Value) → Act, lit = fun vs => { tmps := List.toArray (Value.slice (some { block := g, off := 0 }) n cap :: undef :: u2 :: Value.int IntKind.i64 (i : Int) :: Value.int IntKind.i64 (k : Int) :: Value.int IntKind.i64 (i : Int) :: Value.slice (some { block := g, off := 0 }) n cap :: Value.int IntKind.i64 (n : Int) :: Value.bool true :: u9 :: u10 :: Value.int IntKind.i64 (k : Int) :: Value.int IntKind.i64 (i : Int) :: Value.bool true :: u14 :: u15 :: vs 0 :: vs 1 :: vs 2 :: vs 3 :: vs 4 :: vs 5 :: vs 6 :: vs 7 :: vs 8 :: vs 9 :: vs 10 :: vs 11 :: vs 12 :: vs 13 :: vs 14 :: vs 15 :: vs 16 :: vs 17 :: vs 18 :: vs 19 :: vs 20 :: vs 21 :: vs 22 :: []), defers := [] } := ⟨_, rfl⟩
            have HLIT := Lib.hid hlit
            clear hlit
            obtain ⟨val, hval⟩ : ∃ val : List Value, val = [.slice (some ⟨g, 0, none⟩) n cap, .int .i64 i, .pointer (some ⟨g, i, none⟩), .slice (some ⟨gi, 0, none⟩) ni ci, .slice (some ⟨g, 0, none⟩) n cap, .int .i64 k, .pointer (some ⟨g, k, none⟩), .slice (some ⟨gk, 0, none⟩) nk ck, .bool true, .bool false, .bool false, undef, undef, undef, undef, undef, undef, undef, undef, undef, undef, undef, .bool false] := ⟨_, rfl⟩
            have E0 := Lib.hid (show val.getD 0 undef = .slice (some ⟨g, 0, none⟩) n cap by rw [hval]; rfl)
            have E1 := Lib.hid (show val.getD 1 undef = .int .i64 i by rw [hval]; rfl)
            have E2 := Lib.hid (show val.getD 2 undef = .pointer (some ⟨g, i, none⟩) by rw [hval]; rfl)
            have E3 := Lib.hid (show val.getD 3 undef = .slice (some ⟨gi, 0, none⟩) ni ci by rw [hval]; rfl)
            have E4 := Lib.hid (show val.getD 4 undef = .slice (some ⟨g, 0, none⟩) n cap by rw [hval]; rfl)
            have E5 := Lib.hid (show val.getD 5 undef = .int .i64 k by rw [hval]; rfl)
            have E6 := Lib.hid (show val.getD 6 undef = .pointer (some ⟨g, k, none⟩) by rw [hval]; rfl)
            have E7 := Lib.hid (show val.getD 7 undef = .slice (some ⟨gk, 0, none⟩) nk ck by rw [hval]; rfl)
            have E8 := Lib.hid (show val.getD 8 undef = .bool true by rw [hval]; rfl)
            have E9 := Lib.hid (show val.getD 9 undef = .bool false by rw [hval]; rfl)
            have E10 := Lib.hid (show val.getD 10 undef = .bool false by rw [hval]; rfl)
            have E11 := Lib.hid (show val.getD 11 undef = undef by rw [hval]; rfl)
            have E12 := Lib.hid (show val.getD 12 undef = undef by rw [hval]; rfl)
            have E13 := Lib.hid (show val.getD 13 undef = undef by rw [hval]; rfl)
            have E14 := Lib.hid (show val.getD 14 undef = undef by rw [hval]; rfl)
            have E15 := Lib.hid (show val.getD 15 undef = undef by rw [hval]; rfl)
            have E16 := Lib.hid (show val.getD 16 undef = undef by rw [hval]; rfl)
            have E17 := Lib.hid (show val.getD 17 undef = undef by rw [hval]; rfl)
            have E18 := Lib.hid (show val.getD 18 undef = undef by rw [hval]; rfl)
            have E19 := Lib.hid (show val.getD 19 undef = undef by rw [hval]; rfl)
            have E20 := Lib.hid (show val.getD 20 undef = undef by rw [hval]; rfl)
            have E21 := Lib.hid (show val.getD 21 undef = undef by rw [hval]; rfl)
            have E22 := Lib.hid (show val.getD 22 undef = .bool false by rw [hval]; rfl)
            clear hval
            obtain ⟨G, hG0⟩ : ∃ G : Nat → Value → World → Prop, G = (fun i v w => (v = val.getD i undef)) := ⟨_, rfl⟩
            have HG := Lib.hid hG0
            clear hG0
            refine region_inv (RS lit wr G) (by kernel_rfl) (by decide +kernel) ?_ ?_ ?_
            · exact ⟨fun i => ([u16, u17, u18, u19, u20, u21, u22, u23, u24, u25, u26, u27, u28, u29, u30, u31, u32, u33, u34, u35, u36, u37, u38] : List Value).getD i undef, (by rw [HLIT.out]; rfl), below_drew _ _, fun i h => by cases h⟩
            · refine ⟨?_, ?_, ?_, ?_, ?_, ?_, ?_, ?_, ?_, ?_, ?_, ?_, ?_, ?_, ?_, ?_, ?_, ?_, ?_, ?_, ?_, ?_, ?_, trivial⟩
              · intro bf ac wv hfb haf hJ K' hK
                obtain ⟨vs, rfl, hM, j4⟩ := hJ
                replace hK := Lib.hid hK
                replace hM := Lib.hid hM
                rw [HG.out] at j4
                replace j4 := Lib.hid j4
                clear haf hfb
                rw [HLIT.out]
                go_simp
                exact hK.out _ _ (RS.next (wv := wv) (vs := vs) 0 (x := .slice (some ⟨g, 0, none⟩) n cap) (by rw [HLIT.out]; rfl) (by rw [HG.out]; exact j4.out) hM.out (by rw [HG.out]; exact fun _ _ h => h) (by rw [HG.out]; exact E0.out.symm))
              · intro bf ac wv hfb haf hJ K' hK
                obtain ⟨vs, rfl, hM, j4⟩ := hJ
                replace hK := Lib.hid hK
                replace hM := Lib.hid hM
                rw [HG.out] at j4
                replace j4 := Lib.hid j4
                clear haf hfb
                rw [HLIT.out]
                go_simp
                exact hK.out _ _ (RS.next (wv := wv) (vs := vs) 1 (x := .int .i64 i) (by rw [HLIT.out]; rfl) (by rw [HG.out]; exact j4.out) hM.out (by rw [HG.out]; exact fun _ _ h => h) (by rw [HG.out]; exact E1.out.symm))
              · intro bf ac wv hfb haf hJ K' hK
                obtain ⟨vs, rfl, hM, j4⟩ := hJ
                replace hK := Lib.hid hK
                replace hM := Lib.hid hM
                rw [HG.out] at j4
                simp [Region.binds] at haf
                have e0 := ((j4 0 (by simp [haf]))).trans E0.out
                have e1 := ((j4 1 (by simp [haf]))).trans E1.out
                replace j4 := Lib.hid j4
                clear haf hfb
                rw [HLIT.out]
                go_simp
                exact hK.out _ _ (RS.next (wv := wv) (vs := vs) 2 (x := .pointer (some ⟨g, i, none⟩)) (by rw [HLIT.out]; simp only [upv, e0, e1, Nat.reduceBEq, cond_true, cond_false]) (by rw [HG.out]; exact j4.out) hM.out (by rw [HG.out]; exact fun _ _ h => h) (by rw [HG.out]; exact E2.out.symm))
              · intro bf ac wv hfb haf hJ K' hK
                obtain ⟨vs, rfl, hM, j4⟩ := hJ
                replace hK := Lib.hid hK
                replace hM := Lib.hid hM
                rw [HG.out] at j4
                simp [Region.binds] at haf
                have e2 := ((j4 2 (by simp [haf]))).trans E2.out
                replace j4 := Lib.hid j4
                clear haf hfb
                have xg := keep1 hM.out XI.out
                have xgz := World.block_lt_of_cell? _ _ xg
                have xgz : g < wv.heap.size := xgz
                rw [HLIT.out]
                go_simp
                exact hK.out _ _ (RS.next (wv := wv) (vs := vs) 3 (x := .slice (some ⟨gi, 0, none⟩) ni ci) (by rw [HLIT.out]; simp only [upv, e2, Nat.reduceBEq, cond_true, cond_false]) (by rw [HG.out]; exact j4.out) hM.out (by rw [HG.out]; exact fun _ _ h => h) (by rw [HG.out]; exact E3.out.symm))
              · intro bf ac wv hfb haf hJ K' hK
                obtain ⟨vs, rfl, hM, j4⟩ := hJ
                replace hK := Lib.hid hK
                replace hM := Lib.hid hM
                rw [HG.out] at j4
                replace j4 := Lib.hid j4
                clear haf hfb
                rw [HLIT.out]
                go_simp
                exact hK.out _ _ (RS.next (wv := wv) (vs := vs) 4 (x := .slice (some ⟨g, 0, none⟩) n cap) (by rw [HLIT.out]; rfl) (by rw [HG.out]; exact j4.out) hM.out (by rw [HG.out]; exact fun _ _ h => h) (by rw [HG.out]; exact E4.out.symm))
              · intro bf ac wv hfb haf hJ K' hK
                obtain ⟨vs, rfl, hM, j4⟩ := hJ
                replace hK := Lib.hid hK
                replace hM := Lib.hid hM
                rw [HG.out] at j4
                replace j4 := Lib.hid j4
                clear haf hfb
                rw [HLIT.out]
                go_simp
                exact hK.out _ _ (RS.next (wv := wv) (vs := vs) 5 (x := .int .i64 k) (by rw [HLIT.out]; rfl) (by rw [HG.out]; exact j4.out) hM.out (by rw [HG.out]; exact fun _ _ h => h) (by rw [HG.out]; exact E5.out.symm))
              · intro bf ac wv hfb haf hJ K' hK
                obtain ⟨vs, rfl, hM, j4⟩ := hJ
                replace hK := Lib.hid hK
                replace hM := Lib.hid hM
                rw [HG.out] at j4
                simp [Region.binds] at haf
                have e4 := ((j4 4 (by simp [haf]))).trans E4.out
                have e5 := ((j4 5 (by simp [haf]))).trans E5.out
                replace j4 := Lib.hid j4
                clear haf hfb
                rw [HLIT.out]
                go_simp
                exact hK.out _ _ (RS.next (wv := wv) (vs := vs) 6 (x := .pointer (some ⟨g, k, none⟩)) (by rw [HLIT.out]; simp only [upv, e4, e5, Nat.reduceBEq, cond_true, cond_false]) (by rw [HG.out]; exact j4.out) hM.out (by rw [HG.out]; exact fun _ _ h => h) (by rw [HG.out]; exact E6.out.symm))
              · intro bf ac wv hfb haf hJ K' hK
                obtain ⟨vs, rfl, hM, j4⟩ := hJ
                replace hK := Lib.hid hK
                replace hM := Lib.hid hM
                rw [HG.out] at j4
                simp [Region.binds] at haf
                have e6 := ((j4 6 (by simp [haf]))).trans E6.out
                replace j4 := Lib.hid j4
                clear haf hfb
                have xg := keep1 hM.out XK.out
                have xgz := World.block_lt_of_cell? _ _ xg
                have xgz : g < wv.heap.size := xgz
                rw [HLIT.out]
                go_simp
                exact hK.out _ _ (RS.next (wv := wv) (vs := vs) 7 (x := .slice (some ⟨gk, 0, none⟩) nk ck) (by rw [HLIT.out]; simp only [upv, e6, Nat.reduceBEq, cond_true, cond_false]) (by rw [HG.out]; exact j4.out) hM.out (by rw [HG.out]; exact fun _ _ h => h) (by rw [HG.out]; exact E7.out.symm))
              · intro bf ac wv hfb haf hJ K' hK
                obtain ⟨vs, rfl, hM, j4⟩ := hJ
                replace hK := Lib.hid hK
                replace hM := Lib.hid hM
                rw [HG.out] at j4
                simp [Region.binds] at haf
                have e3 := ((j4 3 (by simp [haf]))).trans E3.out
                have e7 := ((j4 7 (by simp [haf]))).trans E7.out
                replace j4 := Lib.hid j4
                clear haf hfb
                rw [HLIT.out]
                go_simp
                go_at_call 17
                refine (ints_any _ _ li lk _ (HII.out.step hM.out) (HIK.out.step hM.out)).mono ?_
                rintro e w4 ⟨rfl, n9, rfl⟩
                rw [decide_eq_true hb.out]
                have b4 : Below wv.heap.size wv (wv.drewN n9) := below_drewN' _ _ _
                exact hK.out _ _ (RS.next (wv := wv) (vs := vs) 8 (x := .bool true) (by rw [HLIT.out]; simp only [upv, e3, e7, Nat.reduceBEq, cond_true, cond_false]) (by rw [HG.out]; exact j4.out) (keep2 b4 hM.out) (by rw [HG.out]; exact fun _ _ h => h) (by rw [HG.out]; exact E8.out.symm))
              · intro bf ac wv hfb haf hJ K' hK
                obtain ⟨vs, rfl, hM, j4⟩ := hJ
                replace hK := Lib.hid hK
                replace hM := Lib.hid hM
                rw [HG.out] at j4
                simp [Region.binds] at haf
                have e8 := ((j4 8 (by simp [haf]))).trans E8.out
                replace j4 := Lib.hid j4
                clear haf hfb
                rw [HLIT.out]
                go_simp
                exact hK.out _ _ (RS.next (wv := wv) (vs := vs) 9 (x := .bool false) (by rw [HLIT.out]; simp only [upv, e8, Nat.reduceBEq, cond_true, cond_false]) (by rw [HG.out]; exact j4.out) hM.out (by rw [HG.out]; exact fun _ _ h => h) (by rw [HG.out]; exact E9.out.symm))
              · intro bf ac wv hfb haf hJ K' hK
                obtain ⟨vs, rfl, hM, j4⟩ := hJ
                replace hK := Lib.hid hK
                replace hM := Lib.hid hM
                rw [HG.out] at j4
                simp [Region.binds] at haf
                have e9 := ((j4 9 (by simp [haf]))).trans E9.out
                replace j4 := Lib.hid j4
                clear haf hfb
                rw [HLIT.out]
                go_simp
                exact hK.out _ _ (RS.next (wv := wv) (vs := vs) 10 (x := .bool false) (by rw [HLIT.out]; simp only [upv, e9, Nat.reduceBEq, cond_true, cond_false]) (by rw [HG.out]; exact j4.out) hM.out (by rw [HG.out]; exact fun _ _ h => h) (by rw [HG.out]; exact E10.out.symm))
              · intro bf ac wv hfb haf hJ K' hK
                obtain ⟨vs, rfl, hM, j4⟩ := hJ
                replace hK := Lib.hid hK
                replace hM := Lib.hid hM
                rw [HG.out] at j4
                simp [Region.binds] at haf
                have e10 := ((j4 10 (by simp [haf]))).trans E10.out
                replace j4 := Lib.hid j4
                clear haf hfb
                rw [HLIT.out]
                go_simp
                exact hK.out _ _ (RS.next (wv := wv) (vs := vs) 11 (x := undef) (by rw [HLIT.out]; simp only [upv, e10, Nat.reduceBEq, cond_true, cond_false]) (by rw [HG.out]; exact j4.out) hM.out (by rw [HG.out]; exact fun _ _ h => h) (by rw [HG.out]; exact E11.out.symm))
              · intro bf ac wv hfb haf hJ K' hK
                obtain ⟨vs, rfl, hM, j4⟩ := hJ
                replace hK := Lib.hid hK
                replace hM := Lib.hid hM
                rw [HG.out] at j4
                simp [Region.binds] at haf
                have e10 := ((j4 10 (by simp [haf]))).trans E10.out
                replace j4 := Lib.hid j4
                clear haf hfb
                rw [HLIT.out]
                go_simp
                exact hK.out _ _ (RS.next (wv := wv) (vs := vs) 12 (x := undef) (by rw [HLIT.out]; simp only [upv, e10, Nat.reduceBEq, cond_true, cond_false]) (by rw [HG.out]; exact j4.out) hM.out (by rw [HG.out]; exact fun _ _ h => h) (by rw [HG.out]; exact E12.out.symm))
              · intro bf ac wv hfb haf hJ K' hK
                obtain ⟨vs, rfl, hM, j4⟩ := hJ
                replace hK := Lib.hid hK
                replace hM := Lib.hid hM
                rw [HG.out] at j4
                simp [Region.binds] at haf
                have e10 := ((j4 10 (by simp [haf]))).trans E10.out
                replace j4 := Lib.hid j4
                clear haf hfb
                rw [HLIT.out]
                go_simp
                exact hK.out _ _ (RS.next (wv := wv) (vs := vs) 13 (x := undef) (by rw [HLIT.out]; simp only [upv, e10, Nat.reduceBEq, cond_true, cond_false]) (by rw [HG.out]; exact j4.out) hM.out (by rw [HG.out]; exact fun _ _ h => h) (by rw [HG.out]; exact E13.out.symm))
              · intro bf ac wv hfb haf hJ K' hK
                obtain ⟨vs, rfl, hM, j4⟩ := hJ
                replace hK := Lib.hid hK
                replace hM := Lib.hid hM
                rw [HG.out] at j4
                simp [Region.binds] at haf
                have e10 := ((j4 10 (by simp [haf]))).trans E10.out
                replace j4 := Lib.hid j4
                clear haf hfb
                rw [HLIT.out]
                go_simp
                exact hK.out _ _ (RS.next (wv := wv) (vs := vs) 14 (x := undef) (by rw [HLIT.out]; simp only [upv, e10, Nat.reduceBEq, cond_true, cond_false]) (by rw [HG.out]; exact j4.out) hM.out (by rw [HG.out]; exact fun _ _ h => h) (by rw [HG.out]; exact E14.out.symm))
              · intro bf ac wv hfb haf hJ K' hK
                obtain ⟨vs, rfl, hM, j4⟩ := hJ
                replace hK := Lib.hid hK
                replace hM := Lib.hid hM
                rw [HG.out] at j4
                simp [Region.binds] at haf
                have e10 := ((j4 10 (by simp [haf]))).trans E10.out
                replace j4 := Lib.hid j4
                clear haf hfb
                rw [HLIT.out]
                go_simp
                exact hK.out _ _ (RS.next (wv := wv) (vs := vs) 15 (x := undef) (by rw [HLIT.out]; simp only [upv, e10, Nat.reduceBEq, cond_true, cond_false]) (by rw [HG.out]; exact j4.out) hM.out (by rw [HG.out]; exact fun _ _ h => h) (by rw [HG.out]; exact E15.out.symm))
              · intro bf ac wv hfb haf hJ K' hK
                obtain ⟨vs, rfl, hM, j4⟩ := hJ
                replace hK := Lib.hid hK
                replace hM := Lib.hid hM
                rw [HG.out] at j4
                simp [Region.binds] at haf
                have e10 := ((j4 10 (by simp [haf]))).trans E10.out
                replace j4 := Lib.hid j4
                clear haf hfb
                rw [HLIT.out]
                go_simp
                exact hK.out _ _ (RS.next (wv := wv) (vs := vs) 16 (x := undef) (by rw [HLIT.out]; simp only [upv, e10, Nat.reduceBEq, cond_true, cond_false]) (by rw [HG.out]; exact j4.out) hM.out (by rw [HG.out]; exact fun _ _ h => h) (by rw [HG.out]; exact E16.out.symm))
              · intro bf ac wv hfb haf hJ K' hK
                obtain ⟨vs, rfl, hM, j4⟩ := hJ
                replace hK := Lib.hid hK
                replace hM := Lib.hid hM
                rw [HG.out] at j4
                simp [Region.binds] at haf
                have e10 := ((j4 10 (by simp [haf]))).trans E10.out
                replace j4 := Lib.hid j4
                clear haf hfb
                rw [HLIT.out]
                go_simp
                exact hK.out _ _ (RS.next (wv := wv) (vs := vs) 17 (x := undef) (by rw [HLIT.out]; simp only [upv, e10, Nat.reduceBEq, cond_true, cond_false]) (by rw [HG.out]; exact j4.out) hM.out (by rw [HG.out]; exact fun _ _ h => h) (by rw [HG.out]; exact E17.out.symm))
              · intro bf ac wv hfb haf hJ K' hK
                obtain ⟨vs, rfl, hM, j4⟩ := hJ
                replace hK := Lib.hid hK
                replace hM := Lib.hid hM
                rw [HG.out] at j4
                simp [Region.binds] at haf
                have e10 := ((j4 10 (by simp [haf]))).trans E10.out
                replace j4 := Lib.hid j4
                clear haf hfb
                rw [HLIT.out]
                go_simp
                exact hK.out _ _ (RS.next (wv := wv) (vs := vs) 18 (x := undef) (by rw [HLIT.out]; simp only [upv, e10, Nat.reduceBEq, cond_true, cond_false]) (by rw [HG.out]; exact j4.out) hM.out (by rw [HG.out]; exact fun _ _ h => h) (by rw [HG.out]; exact E18.out.symm))
              · intro bf ac wv hfb haf hJ K' hK
                obtain ⟨vs, rfl, hM, j4⟩ := hJ
                replace hK := Lib.hid hK
                replace hM := Lib.hid hM
                rw [HG.out] at j4
                simp [Region.binds] at haf
                have e10 := ((j4 10 (by simp [haf]))).trans E10.out
                replace j4 := Lib.hid j4
                clear haf hfb
                rw [HLIT.out]
                go_simp
                exact hK.out _ _ (RS.next (wv := wv) (vs := vs) 19 (x := undef) (by rw [HLIT.out]; simp only [upv, e10, Nat.reduceBEq, cond_true, cond_false]) (by rw [HG.out]; exact j4.out) hM.out (by rw [HG.out]; exact fun _ _ h => h) (by rw [HG.out]; exact E19.out.symm))
              · intro bf ac wv hfb haf hJ K' hK
                obtain ⟨vs, rfl, hM, j4⟩ := hJ
                replace hK := Lib.hid hK
                replace hM := Lib.hid hM
                rw [HG.out] at j4
                simp [Region.binds] at haf
                have e10 := ((j4 10 (by simp [haf]))).trans E10.out
                replace j4 := Lib.hid j4
                clear haf hfb
                rw [HLIT.out]
                go_simp
                exact hK.out _ _ (RS.next (wv := wv) (vs := vs) 20 (x := undef) (by rw [HLIT.out]; simp only [upv, e10, Nat.reduceBEq, cond_true, cond_false]) (by rw [HG.out]; exact j4.out) hM.out (by rw [HG.out]; exact fun _ _ h => h) (by rw [HG.out]; exact E20.out.symm))
              · intro bf ac wv hfb haf hJ K' hK
                obtain ⟨vs, rfl, hM, j4⟩ := hJ
                replace hK := Lib.hid hK
                replace hM := Lib.hid hM
                rw [HG.out] at j4
                simp [Region.binds] at haf
                have e10 := ((j4 10 (by simp [haf]))).trans E10.out
                replace j4 := Lib.hid j4
                clear haf hfb
                rw [HLIT.out]
                go_simp
                exact hK.out _ _ (RS.next (wv := wv) (vs := vs) 21 (x := undef) (by rw [HLIT.out]; simp only [upv, e10, Nat.reduceBEq, cond_true, cond_false]) (by rw [HG.out]; exact j4.out) hM.out (by rw [HG.out]; exact fun _ _ h => h) (by rw [HG.out]; exact E21.out.symm))
              · intro bf ac wv hfb haf hJ K' hK
                obtain ⟨vs, rfl, hM, j4⟩ := hJ
                replace hK := Lib.hid hK
                replace hM := Lib.hid hM
                rw [HG.out] at j4
                simp [Region.binds] at haf
                have e10 := ((j4 10 (by simp [haf]))).trans E10.out
                replace j4 := Lib.hid j4
                clear haf hfb
                rw [HLIT.out]
                go_simp
                exact hK.out _ _ (RS.next (wv := wv) (vs := vs) 22 (x := .bool false) (by rw [HLIT.out]; simp only [upv, e10, Nat.reduceBEq, cond_true, cond_false]) (by rw [HG.out]; exact j4.out) hM.out (by rw [HG.out]; exact fun _ _ h => h) (by rw [HG.out]; exact E22.out.symm))
            · intro bf ac wv hall hJ
              obtain ⟨vs, rfl, hM, j4⟩ := hJ
              rw [HG.out] at j4
              have e22 := ((j4 22 (hall 22 (by decide)))).trans E22.out
              have HB9 := Lib.hid (HB.out.trans (hM.mono HB.out.size))
              clear hM hall j4
              rw [HLIT.out]
              dsimp only
              rw [e22]
              clear e22
              go_wp2
              go_roundw
              case rel => exact ⟨k + 1, by omega, by go_num, HF, HB9⟩
              case measure => simp [intOf]; omega
          · by_cases hd : d1 = d2
            · skip
              replace hb := Lib.hid hb
              clear HD HQ HK
              subst hd
              go_wp2_with fail
              obtain ⟨lit, hlit⟩ : ∃ lit : (Nat → Value) → Act, lit = fun vs => { tmps := List.toArray (Value.slice (some { block := g, off := 0 }) n cap :: undef :: u2 :: Value.int IntKind.i64 (i : Int) :: Value.int IntKind.i64 (k : Int) :: Value.int IntKind.i64 (i : Int) :: Value.slice (some { block := g, off := 0 }) n cap :: Value.int IntKind.i64 (n : Int) :: Value.bool true :: u9 :: u10 :: Value.int IntKind.i64 (k : Int) :: Value.int IntKind.i64 (i : Int) :: Value.bool true :: u14 :: u15 :: vs 0 :: vs 1 :: vs 2 :: vs 3 :: vs 4 :: vs 5 :: vs 6 :: vs 7 :: vs 8 :: vs 9 :: vs 10 :: vs 11 :: vs 12 :: vs 13 :: vs 14 :: vs 15 :: vs 16 :: vs 17 :: vs 18 :: vs 19 :: vs 20 :: vs 21 :: vs 22 :: []), defers := [] } := ⟨_, rfl⟩
              have HLIT := Lib.hid hlit
              clear hlit
              obtain ⟨val, hval⟩ : ∃ val : List Value, val = [.slice (some ⟨g, 0, none⟩) n cap, .int .i64 i, .pointer (some ⟨g, i, none⟩), .slice (some ⟨gi, 0, none⟩) ni ci, .slice (some ⟨g, 0, none⟩) n cap, .int .i64 k, .pointer (some ⟨g, k, none⟩), .slice (some ⟨gk, 0, none⟩) nk ck, .bool false, .bool true, .bool true, .slice (some ⟨g, 0, none⟩) n cap, .int .i64 i, .pointer (some ⟨g, i, none⟩), .slice (some ⟨gi, 0, none⟩) ni ci, .int .i64 d1, .slice (some ⟨g, 0, none⟩) n cap, .int .i64 k, .pointer (some ⟨g, k, none⟩), .slice (some ⟨gk, 0, none⟩) nk ck, .int .i64 d1, .bool true, .bool true] := ⟨_, rfl⟩
              have E0 := Lib.hid (show val.getD 0 undef = .slice (some ⟨g, 0, none⟩) n cap by rw [hval]; rfl)
              have E1 := Lib.hid (show val.getD 1 undef = .int .i64 i by rw [hval]; rfl)
              have E2 := Lib.hid (show val.getD 2 undef = .pointer (some ⟨g, i, none⟩) by rw [hval]; rfl)
              have E3 := Lib.hid (show val.getD 3 undef = .slice (some ⟨gi, 0, none⟩) ni ci by rw [hval]; rfl)
              have E4 := Lib.hid (show val.getD 4 undef = .slice (some ⟨g, 0, none⟩) n cap by rw [hval]; rfl)
              have E5 := Lib.hid (show val.getD 5 undef = .int .i64 k by rw [hval]; rfl)
              have E6 := Lib.hid (show val.getD 6 undef = .pointer (some ⟨g, k, none⟩) by rw [hval]; rfl)
              have E7 := Lib.hid (show val.getD 7 undef = .slice (some ⟨gk, 0, none⟩) nk ck by rw [hval]; rfl)
              have E8 := Lib.hid (show val.getD 8 undef = .bool false by rw [hval]; rfl)
              have E9 := Lib.hid (show val.getD 9 undef = .bool true by rw [hval]; rfl)
              have E10 := Lib.hid (show val.getD 10 undef = .bool true by rw [hval]; rfl)
              have E11 := Lib.hid (show val.getD 11 undef = .slice (some ⟨g, 0, none⟩) n cap by rw [hval]; rfl)
              have E12 := Lib.hid (show val.getD 12 undef = .int .i64 i by rw [hval]; rfl)
              have E13 := Lib.hid (show val.getD 13 undef = .pointer (some ⟨g, i, none⟩) by rw [hval]; rfl)
              have E14 := Lib.hid (show val.getD 14 undef = .slice (some ⟨gi, 0, none⟩) ni ci by rw [hval]; rfl)
              have E15 := Lib.hid (show val.getD 15 undef = .int .i64 d1 by rw [hval]; rfl)
              have E16 := Lib.hid (show val.getD 16 undef = .slice (some ⟨g, 0, none⟩) n cap by rw [hval]; rfl)
              have E17 := Lib.hid (show val.getD 17 undef = .int .i64 k by rw [hval]; rfl)
              have E18 := Lib.hid (show val.getD 18 undef = .pointer (some ⟨g, k, none⟩) by rw [hval]; rfl)
              have E19 := Lib.hid (show val.getD 19 undef = .slice (some ⟨gk, 0, none⟩) nk ck by rw [hval]; rfl)
              have E20 := Lib.hid (show val.getD 20 undef = .int .i64 d1 by rw [hval]; rfl)
              have E21 := Lib.hid (show val.getD 21 undef = .bool true by rw [hval]; rfl)
              have E22 := Lib.hid (show val.getD 22 undef = .bool true by rw [hval]; rfl)
              clear hval
              obtain ⟨G, hG0⟩ : ∃ G : Nat → Value → World → Prop, G = (fun i v w => (v = val.getD i undef)) := ⟨_, rfl⟩
              have HG := Lib.hid hG0
              clear hG0
              refine region_inv (RS lit wr G) (by kernel_rfl) (by decide +kernel) ?_ ?_ ?_
              · exact ⟨fun i => ([u16, u17, u18, u19, u20, u21, u22, u23, u24, u25, u26, u27, u28, u29, u30, u31, u32, u33, u34, u35, u36, u37, u38] : List Value).getD i undef, (by rw [HLIT.out]; rfl), below_drew _ _, fun i h => by cases h⟩
              · refine ⟨?_, ?_, ?_, ?_, ?_, ?_, ?_, ?_, ?_, ?_, ?_, ?_, ?_, ?_, ?_, ?_, ?_, ?_, ?_, ?_, ?_, ?_, ?_, trivial⟩
                · intro bf ac wv hfb haf hJ K' hK
                  obtain ⟨vs, rfl, hM, j4⟩ := hJ
                  replace hK := Lib.hid hK
                  replace hM := Lib.hid hM
                  rw [HG.out] at j4
                  replace j4 := Lib.hid j4
                  clear haf hfb
                  rw [HLIT.out]
                  go_simp
                  exact hK.out _ _ (RS.next (wv := wv) (vs := vs) 0 (x := .slice (some ⟨g, 0, none⟩) n cap) (by rw [HLIT.out]; rfl) (by rw [HG.out]; exact j4.out) hM.out (by rw [HG.out]; exact fun _ _ h => h) (by rw [HG.out]; exact E0.out.symm))
                · intro bf ac wv hfb haf hJ K' hK
                  obtain ⟨vs, rfl, hM, j4⟩ := hJ
                  replace hK := Lib.hid hK
                  replace hM := Lib.hid hM
                  rw [HG.out] at j4
                  replace j4 := Lib.hid j4
                  clear haf hfb
                  rw [HLIT.out]
                  go_simp
                  exact hK.out _ _ (RS.next (wv := wv) (vs := vs) 1 (x := .int .i64 i) (by rw [HLIT.out]; rfl) (by rw [HG.out]; exact j4.out) hM.out (by rw [HG.out]; exact fun _ _ h => h) (by rw [HG.out]; exact E1.out.symm))
                · intro bf ac wv hfb haf hJ K' hK
                  obtain ⟨vs, rfl, hM, j4⟩ := hJ
                  replace hK := Lib.hid hK
                  replace hM := Lib.hid hM
                  rw [HG.out] at j4
                  simp [Region.binds] at haf
                  have e0 := ((j4 0 (by simp [haf]))).trans E0.out
                  have e1 := ((j4 1 (by simp [haf]))).trans E1.out
                  replace j4 := Lib.hid j4
                  clear haf hfb
                  rw [HLIT.out]
                  go_simp
                  exact hK.out _ _ (RS.next (wv := wv) (vs := vs) 2 (x := .pointer (some ⟨g, i, none⟩)) (by rw [HLIT.out]; simp only [upv, e0, e1, Nat.reduceBEq, cond_true, cond_false]) (by rw [HG.out]; exact j4.out) hM.out (by rw [HG.out]; exact fun _ _ h => h) (by rw [HG.out]; exact E2.out.symm))
                · intro bf ac wv hfb haf hJ K' hK
                  obtain ⟨vs, rfl, hM, j4⟩ := hJ
                  replace hK := Lib.hid hK
                  replace hM := Lib.hid hM
                  rw [HG.out] at j4
                  simp [Region.binds] at haf
                  have e2 := ((j4 2 (by simp [haf]))).trans E2.out
                  replace j4 := Lib.hid j4
                  clear haf hfb
                  have xg := keep1 hM.out XI.out
                  have xgz := World.block_lt_of_cell? _ _ xg
                  have xgz : g < wv.heap.size := xgz
                  rw [HLIT.out]
                  go_simp
                  exact hK.out _ _ (RS.next (wv := wv) (vs := vs) 3 (x := .slice (some ⟨gi, 0, none⟩) ni ci) (by rw [HLIT.out]; simp only [upv, e2, Nat.reduceBEq, cond_true, cond_false]) (by rw [HG.out]; exact j4.out) hM.out (by rw [HG.out]; exact fun _ _ h => h) (by rw [HG.out]; exact E3.out.symm))
                · intro bf ac wv hfb haf hJ K' hK
                  obtain ⟨vs, rfl, hM, j4⟩ := hJ
                  replace hK := Lib.hid hK
                  replace hM := Lib.hid hM
                  rw [HG.out] at j4
                  replace j4 := Lib.hid j4
                  clear haf hfb
                  rw [HLIT.out]
                  go_simp
                  exact hK.out _ _ (RS.next (wv := wv) (vs := vs) 4 (x := .slice (some ⟨g, 0, none⟩) n cap) (by rw [HLIT.out]; rfl) (by rw [HG.out]; exact j4.out) hM.out (by rw [HG.out]; exact fun _ _ h => h) (by rw [HG.out]; exact E4.out.symm))
                · intro bf ac wv hfb haf hJ K' hK
                  obtain ⟨vs, rfl, hM, j4⟩ := hJ
                  replace hK := Lib.hid hK
                  replace hM := Lib.hid hM
                  rw [HG.out] at j4
                  replace j4 := Lib.hid j4
                  clear haf hfb
                  rw [HLIT.out]
                  go_simp
                  exact hK.out _ _ (RS.next (wv := wv) (vs := vs) 5 (x := .int .i64 k) (by rw [HLIT.out]; rfl) (by rw [HG.out]; exact j4.out) hM.out (by rw [HG.out]; exact fun _ _ h => h) (by rw [HG.out]; exact E5.out.symm))
                · intro bf ac wv hfb haf hJ K' hK
                  obtain ⟨vs, rfl, hM, j4⟩ := hJ
                  replace hK := Lib.hid hK
                  replace hM := Lib.hid hM
                  rw [HG.out] at j4
                  simp [Region.binds] at haf
                  have e4 := ((j4 4 (by simp [haf]))).trans E4.out
                  have e5 := ((j4 5 (by simp [haf]))).trans E5.out
                  replace j4 := Lib.hid j4
                  clear haf hfb
                  rw [HLIT.out]
                  go_simp
                  exact hK.out _ _ (RS.next (wv := wv) (vs := vs) 6 (x := .pointer (some ⟨g, k, none⟩)) (by rw [HLIT.out]; simp only [upv, e4, e5, Nat.reduceBEq, cond_true, cond_false]) (by rw [HG.out]; exact j4.out) hM.out (by rw [HG.out]; exact fun _ _ h => h) (by rw [HG.out]; exact E6.out.symm))
                · intro bf ac wv hfb haf hJ K' hK
                  obtain ⟨vs, rfl, hM, j4⟩ := hJ
                  replace hK := Lib.hid hK
                  replace hM := Lib.hid hM
                  rw [HG.out] at j4
                  simp [Region.binds] at haf
                  have e6 := ((j4 6 (by simp [haf]))).trans E6.out
                  replace j4 := Lib.hid j4
                  clear haf hfb
                  have xg := keep1 hM.out XK.out
                  have xgz := World.block_lt_of_cell? _ _ xg
                  have xgz : g < wv.heap.size := xgz
                  rw [HLIT.out]
                  go_simp
                  exact hK.out _ _ (RS.next (wv := wv) (vs := vs) 7 (x := .slice (some ⟨gk, 0, none⟩) nk ck) (by rw [HLIT.out]; simp only [upv, e6, Nat.reduceBEq, cond_true, cond_false]) (by rw [HG.out]; exact j4.out) hM.out (by rw [HG.out]; exact fun _ _ h => h) (by rw [HG.out]; exact E7.out.symm))
                · intro bf ac wv hfb haf hJ K' hK
                  obtain ⟨vs, rfl, hM, j4⟩ := hJ
                  replace hK := Lib.hid hK
                  replace hM := Lib.hid hM
                  rw [HG.out] at j4
                  simp [Region.binds] at haf
                  have e3 := ((j4 3 (by simp [haf]))).trans E3.out
                  have e7 := ((j4 7 (by simp [haf]))).trans E7.out
                  replace j4 := Lib.hid j4
                  clear haf hfb
                  rw [HLIT.out]
                  go_simp
                  go_at_call 17
                  refine (ints_any _ _ li lk _ (HII.out.step hM.out) (HIK.out.step hM.out)).mono ?_
                  rintro e w4 ⟨rfl, n9, rfl⟩
                  rw [decide_eq_false hb.out]
                  have b4 : Below wv.heap.size wv (wv.drewN n9) := below_drewN' _ _ _
                  exact hK.out _ _ (RS.next (wv := wv) (vs := vs) 8 (x := .bool false) (by rw [HLIT.out]; simp only [upv, e3, e7, Nat.reduceBEq, cond_true, cond_false]) (by rw [HG.out]; exact j4.out) (keep2 b4 hM.out) (by rw [HG.out]; exact fun _ _ h => h) (by rw [HG.out]; exact E8.out.symm))
                · intro bf ac wv hfb haf hJ K' hK
                  obtain ⟨vs, rfl, hM, j4⟩ := hJ
                  replace hK := Lib.hid hK
                  replace hM := Lib.hid hM
                  rw [HG.out] at j4
                  simp [Region.binds] at haf
                  have e8 := ((j4 8 (by simp [haf]))).trans E8.out
                  replace j4 := Lib.hid j4
                  clear haf hfb
                  rw [HLIT.out]
                  go_simp
                  exact hK.out _ _ (RS.next (wv := wv) (vs := vs) 9 (x := .bool true) (by rw [HLIT.out]; simp only [upv, e8, Nat.reduceBEq, cond_true, cond_false]) (by rw [HG.out]; exact j4.out) hM.out (by rw [HG.out]; exact fun _ _ h => h) (by rw [HG.out]; exact E9.out.symm))
                · intro bf ac wv hfb haf hJ K' hK
                  obtain ⟨vs, rfl, hM, j4⟩ := hJ
                  replace hK := Lib.hid hK
                  replace hM := Lib.hid hM
                  rw [HG.out] at j4
                  simp [Region.binds] at haf
                  have e9 := ((j4 9 (by simp [haf]))).trans E9.out
                  replace j4 := Lib.hid j4
                  clear haf hfb
                  rw [HLIT.out]
                  go_simp
                  exact hK.out _ _ (RS.next (wv := wv) (vs := vs) 10 (x := .bool true) (by rw [HLIT.out]; simp only [upv, e9, Nat.reduceBEq, cond_true, cond_false]) (by rw [HG.out]; exact j4.out) hM.out (by rw [HG.out]; exact fun _ _ h => h) (by rw [HG.out]; exact E10.out.symm))
                · intro bf ac wv hfb haf hJ K' hK
                  obtain ⟨vs, rfl, hM, j4⟩ := hJ
                  replace hK := Lib.hid hK
                  replace hM := Lib.hid hM
                  rw [HG.out] at j4
                  simp [Region.binds] at haf
                  have e10 := ((j4 10 (by simp [haf]))).trans E10.out
                  replace j4 := Lib.hid j4
                  clear haf hfb
                  rw [HLIT.out]
                  go_simp
                  exact hK.out _ _ (RS.next (wv := wv) (vs := vs) 11 (x := .slice (some ⟨g, 0, none⟩) n cap) (by rw [HLIT.out]; simp only [upv, e10, Nat.reduceBEq, cond_true, cond_false]) (by rw [HG.out]; exact j4.out) hM.out (by rw [HG.out]; exact fun _ _ h => h) (by rw [HG.out]; exact E11.out.symm))
                · intro bf ac wv hfb haf hJ K' hK
                  obtain ⟨vs, rfl, hM, j4⟩ := hJ
                  replace hK := Lib.hid hK
                  replace hM := Lib.hid hM
                  rw [HG.out] at j4
                  simp [Region.binds] at haf
                  have e10 := ((j4 10 (by simp [haf]))).trans E10.out
                  replace j4 := Lib.hid j4
                  clear haf hfb
                  rw [HLIT.out]
                  go_simp
                  exact hK.out _ _ (RS.next (wv := wv) (vs := vs) 12 (x := .int .i64 i) (by rw [HLIT.out]; simp only [upv, e10, Nat.reduceBEq, cond_true, cond_false]) (by rw [HG.out]; exact j4.out) hM.out (by rw [HG.out]; exact fun _ _ h => h) (by rw [HG.out]; exact E12.out.symm))
                · intro bf ac wv hfb haf hJ K' hK
                  obtain ⟨vs, rfl, hM, j4⟩ := hJ
                  replace hK := Lib.hid hK
                  replace hM := Lib.hid hM
                  rw [HG.out] at j4
                  simp [Region.binds] at haf
                  have e10 := ((j4 10 (by simp [haf]))).trans E10.out
                  have e11 := ((j4 11 (by simp [haf]))).trans E11.out
                  have e12 := ((j4 12 (by simp [haf]))).trans E12.out
                  replace j4 := Lib.hid j4
                  clear haf hfb
                  rw [HLIT.out]
                  go_simp
                  exact hK.out _ _ (RS.next (wv := wv) (vs := vs) 13 (x := .pointer (some ⟨g, i, none⟩)) (by rw [HLIT.out]; simp only [upv, e10, e11, e12, Nat.reduceBEq, cond_true, cond_false]) (by rw [HG.out]; exact j4.out) hM.out (by rw [HG.out]; exact fun _ _ h => h) (by rw [HG.out]; exact E13.out.symm))
                · intro bf ac wv hfb haf hJ K' hK
                  obtain ⟨vs, rfl, hM, j4⟩ := hJ
                  replace hK := Lib.hid hK
                  replace hM := Lib.hid hM
                  rw [HG.out] at j4
                  simp [Region.binds] at haf
                  have e10 := ((j4 10 (by simp [haf]))).trans E10.out
                  have e13 := ((j4 13 (by simp [haf]))).trans E13.out
                  replace j4 := Lib.hid j4
                  clear haf hfb
                  have xg := keep1 hM.out XI.out
                  have xgz := World.block_lt_of_cell? _ _ xg
                  have xgz : g < wv.heap.size := xgz
                  rw [HLIT.out]
                  go_simp
                  exact hK.out _ _ (RS.next (wv := wv) (vs := vs) 14 (x := .slice (some ⟨gi, 0, none⟩) ni ci) (by rw [HLIT.out]; simp only [upv, e10, e13, Nat.reduceBEq, cond_true, cond_false]) (by rw [HG.out]; exact j4.out) hM.out (by rw [HG.out]; exact fun _ _ h => h) (by rw [HG.out]; exact E14.out.symm))
                · intro bf ac wv hfb haf hJ K' hK
                  obtain ⟨vs, rfl, hM, j4⟩ := hJ
                  replace hK := Lib.hid hK
                  replace hM := Lib.hid hM
                  rw [HG.out] at j4
                  simp [Region.binds] at haf
                  have e10 := ((j4 10 (by simp [haf]))).trans E10.out
                  have e14 := ((j4 14 (by simp [haf]))).trans E14.out
                  replace j4 := Lib.hid j4
                  clear haf hfb
                  rw [HLIT.out]
                  go_simp
                  go_at_call 51
                  refine (rsumB_any _ _ _ (HII.out.step hM.out)).mono ?_
                  rintro e w4 ⟨rfl, b4⟩
                  rw [hd1.out]
                  exact hK.out _ _ (RS.next (wv := wv) (vs := vs) 15 (x := .int .i64 d1) (by rw [HLIT.out]; simp only [upv, e10, e14, Nat.reduceBEq, cond_true, cond_false]) (by rw [HG.out]; exact j4.out) (keep2 b4 hM.out) (by rw [HG.out]; exact fun _ _ h => h) (by rw [HG.out]; exact E15.out.symm))
                · intro bf ac wv hfb haf hJ K' hK
                  obtain ⟨vs, rfl, hM, j4⟩ := hJ
                  replace hK := Lib.hid hK
                  replace hM := Lib.hid hM
                  rw [HG.out] at j4
                  simp [Region.binds] at haf
                  have e10 := ((j4 10 (by simp [haf]))).trans E10.out
                  replace j4 := Lib.hid j4
                  clear haf hfb
                  rw [HLIT.out]
                  go_simp
                  exact hK.out _ _ (RS.next (wv := wv) (vs := vs) 16 (x := .slice (some ⟨g, 0, none⟩) n cap) (by rw [HLIT.out]; simp only [upv, e10, Nat.reduceBEq, cond_true, cond_false]) (by rw [HG.out]; exact j4.out) hM.out (by rw [HG.out]; exact fun _ _ h => h) (by rw [HG.out]; exact E16.out.symm))
                · intro bf ac wv hfb haf hJ K' hK
                  obtain ⟨vs, rfl, hM, j4⟩ := hJ
                  replace hK := Lib.hid hK
                  replace hM := Lib.hid hM
                  rw [HG.out] at j4
                  simp [Region.binds] at haf
                  have e10 := ((j4 10 (by simp [haf]))).trans E10.out
                  replace j4 := Lib.hid j4
                  clear haf hfb
                  rw [HLIT.out]
                  go_simp
                  exact hK.out _ _ (RS.next (wv := wv) (vs := vs) 17 (x := .int .i64 k) (by rw [HLIT.out]; simp only [upv, e10, Nat.reduceBEq, cond_true, cond_false]) (by rw [HG.out]; exact j4.out) hM.out (by rw [HG.out]; exact fun _ _ h => h) (by rw [HG.out]; exact E17.out.symm))
                · intro bf ac wv hfb haf hJ K' hK
                  obtain ⟨vs, rfl, hM, j4⟩ := hJ
                  replace hK := Lib.hid hK
                  replace hM := Lib.hid hM
                  rw [HG.out] at j4
                  simp [Region.binds] at haf
                  have e10 := ((j4 10 (by simp [haf]))).trans E10.out
                  have e16 := ((j4 16 (by simp [haf]))).trans E16.out
                  have e17 := ((j4 17 (by simp [haf]))).trans E17.out
                  replace j4 := Lib.hid j4
                  clear haf hfb
                  rw [HLIT.out]
                  go_simp
                  exact hK.out _ _ (RS.next (wv := wv) (vs := vs) 18 (x := .pointer (some ⟨g, k, none⟩)) (by rw [HLIT.out]; simp only [upv, e10, e16, e17, Nat.reduceBEq, cond_true, cond_false]) (by rw [HG.out]; exact j4.out) hM.out (by rw [HG.out]; exact fun _ _ h => h) (by rw [HG.out]; exact E18.out.symm))
                · intro bf ac wv hfb haf hJ K' hK
                  obtain ⟨vs, rfl, hM, j4⟩ := hJ
                  replace hK := Lib.hid hK
                  replace hM := Lib.hid hM
                  rw [HG.out] at j4
                  simp [Region.binds] at haf
                  have e10 := ((j4 10 (by simp [haf]))).trans E10.out
                  have e18 := ((j4 18 (by simp [haf]))).trans E18.out
                  replace j4 := Lib.hid j4
                  clear haf hfb
                  have xg := keep1 hM.out XK.out
                  have xgz := World.block_lt_of_cell? _ _ xg
                  have xgz : g < wv.heap.size := xgz
                  rw [HLIT.out]
                  go_simp
                  exact hK.out _ _ (RS.next (wv := wv) (vs := vs) 19 (x := .slice (some ⟨gk, 0, none⟩) nk ck) (by rw [HLIT.out]; simp only [upv, e10, e18, Nat.reduceBEq, cond_true, cond_false]) (by rw [HG.out]; exact j4.out) hM.out (by rw [HG.out]; exact fun _ _ h => h) (by rw [HG.out]; exact E19.out.symm))
                · intro bf ac wv hfb haf hJ K' hK
                  obtain ⟨vs, rfl, hM, j4⟩ := hJ
                  replace hK := Lib.hid hK
                  replace hM := Lib.hid hM
                  rw [HG.out] at j4
                  simp [Region.binds] at haf
                  have e10 := ((j4 10 (by simp [haf]))).trans E10.out
                  have e19 := ((j4 19 (by simp [haf]))).trans E19.out
                  replace j4 := Lib.hid j4
                  clear haf hfb
                  rw [HLIT.out]
                  go_simp
                  go_at_call 51
                  refine (rsumB_any _ _ _ (HIK.out.step hM.out)).mono ?_
                  rintro e w4 ⟨rfl, b4⟩
                  rw [hd2.out]
                  exact hK.out _ _ (RS.next (wv := wv) (vs := vs) 20 (x := .int .i64 d1) (by rw [HLIT.out]; simp only [upv, e10, e19, Nat.reduceBEq, cond_true, cond_false]) (by rw [HG.out]; exact j4.out) (keep2 b4 hM.out) (by rw [HG.out]; exact fun _ _ h => h) (by rw [HG.out]; exact E20.out.symm))
                · intro bf ac wv hfb haf hJ K' hK
                  obtain ⟨vs, rfl, hM, j4⟩ := hJ
                  replace hK := Lib.hid hK
                  replace hM := Lib.hid hM
                  rw [HG.out] at j4
                  simp [Region.binds] at haf
                  have e10 := ((j4 10 (by simp [haf]))).trans E10.out
                  have e15 := ((j4 15 (by simp [haf]))).trans E15.out
                  have e20 := ((j4 20 (by simp [haf]))).trans E20.out
                  replace j4 := Lib.hid j4
                  clear haf hfb
                  rw [HLIT.out]
                  go_simp
                  exact hK.out _ _ (RS.next (wv := wv) (vs := vs) 21 (x := .bool true) (by rw [HLIT.out]; simp only [upv, e10, e15, e20, Nat.reduceBEq, cond_true, cond_false]) (by rw [HG.out]; exact j4.out) hM.out (by rw [HG.out]; exact fun _ _ h => h) (by rw [HG.out]; exact E21.out.symm))
                · intro bf ac wv hfb haf hJ K' hK
                  obtain ⟨vs, rfl, hM, j4⟩ := hJ
                  replace hK := Lib.hid hK
                  replace hM := Lib.hid hM
                  rw [HG.out] at j4
                  simp [Region.binds] at haf
                  have e10 := ((j4 10 (by simp [haf]))).trans E10.out
                  have e21 := ((j4 21 (by simp [haf]))).trans E21.out
                  replace j4 := Lib.hid j4
                  clear haf hfb
                  rw [HLIT.out]
                  go_simp
                  exact hK.out _ _ (RS.next (wv := wv) (vs := vs) 22 (x := .bool true) (by rw [HLIT.out]; simp only [upv, e10, e21, Nat.reduceBEq, cond_true, cond_false]) (by rw [HG.out]; exact j4.out) hM.out (by rw [HG.out]; exact fun _ _ h => h) (by rw [HG.out]; exact E22.out.symm))
              · intro bf ac wv hall hJ
                obtain ⟨vs, rfl, hM, j4⟩ := hJ
                rw [HG.out] at j4
                have e22 := ((j4 22 (hall 22 (by decide)))).trans E22.out
                have HB9 := Lib.hid (HB.out.trans (hM.mono HB.out.size))
                clear hM hall j4
                rw [HLIT.out]
                dsimp only
                rw [e22]
                clear e22
                go_wp2
                go_ret
                exact ⟨rfl, HB9.out⟩
            · skip
              replace hb := Lib.hid hb
              have HF := Lib.hid (HD.out (fun h => hd (HQ.out.1 h).2))
              have q1 : (d1 == d2) = false := by simpa using hd
              have q2 : decide (d1 = d2) = false := by simpa using hd
              clear hd
              go_wp2_with fail
              obtain ⟨lit, hlit⟩ : ∃ lit : (Nat → Value) → Act, lit = fun vs => { tmps := List.toArray (Value.slice (some { block := g, off := 0 }) n cap :: undef :: u2 :: Value.int IntKind.i64 (i : Int) :: Value.int IntKind.i64 (k : Int) :: Value.int IntKind.i64 (i : Int) :: Value.slice (some { block := g, off := 0 }) n cap :: Value.int IntKind.i64 (n : Int) :: Value.bool true :: u9 :: u10 :: Value.int IntKind.i64 (k : Int) :: Value.int IntKind.i64 (i : Int) :: Value.bool true :: u14 :: u15 :: vs 0 :: vs 1 :: vs 2 :: vs 3 :: vs 4 :: vs 5 :: vs 6 :: vs 7 :: vs 8 :: vs 9 :: vs 10 :: vs 11 :: vs 12 :: vs 13 :: vs 14 :: vs 15 :: vs 16 :: vs 17 :: vs 18 :: vs 19 :: vs 20 :: vs 21 :: vs 22 :: []), defers := [] } := ⟨_, rfl⟩
              have HLIT := Lib.hid hlit
              clear hlit
              obtain ⟨val, hval⟩ : ∃ val : List Value, val = [.slice (some ⟨g, 0, none⟩) n cap, .int .i64 i, .pointer (some ⟨g, i, none⟩), .slice (some ⟨gi, 0, none⟩) ni ci, .slice (some ⟨g, 0, none⟩) n cap, .int .i64 k, .pointer (some ⟨g, k, none⟩), .slice (some ⟨gk, 0, none⟩) nk ck, .bool false, .bool true, .bool true, .slice (some ⟨g, 0, none⟩) n cap, .int .i64 i, .pointer (some ⟨g, i, none⟩), .slice (some ⟨gi, 0, none⟩) ni ci, .int .i64 d1, .slice (some ⟨g, 0, none⟩) n cap, .int .i64 k, .pointer (some ⟨g, k, none⟩), .slice (some ⟨gk, 0, none⟩) nk ck, .int .i64 d2, .bool false, .bool false] := ⟨_, rfl⟩
              have E0 := Lib.hid (show val.getD 0 undef = .slice (some ⟨g, 0, none⟩) n cap by rw [hval]; rfl)
              have E1 := Lib.hid (show val.getD 1 undef = .int .i64 i by rw [hval]; rfl)
              have E2 := Lib.hid (show val.getD 2 undef = .pointer (some ⟨g, i, none⟩) by rw [hval]; rfl)
              have E3 := Lib.hid (show val.getD 3 undef = .slice (some ⟨gi, 0, none⟩) ni ci by rw [hval]; rfl)
              have E4 := Lib.hid (show val.getD 4 undef = .slice (some ⟨g, 0, none⟩) n cap by rw [hval]; rfl)
              have E5 := Lib.hid (show val.getD 5 undef = .int .i64 k by rw [hval]; rfl)
              have E6 := Lib.hid (show val.getD 6 undef = .pointer (some ⟨g, k, none⟩) by rw [hval]; rfl)
              have E7 := Lib.hid (show val.getD 7 undef = .slice (some ⟨gk, 0, none⟩) nk ck by rw [hval]; rfl)
              have E8 := Lib.hid (show val.getD 8 undef = .bool false by rw [hval]; rfl)
              have E9 := Lib.hid (show val.getD 9 undef = .bool true by rw [hval]; rfl)
              have E10 := Lib.hid (show val.getD 10 undef = .bool true by rw [hval]; rfl)
              have E11 := Lib.hid (show val.getD 11 undef = .slice (some ⟨g, 0, none⟩) n cap by rw [hval]; rfl)
              have E12 := Lib.hid (show val.getD 12 undef = .int .i64 i by rw [hval]; rfl)
              have E13 := Lib.hid (show val.getD 13 undef = .pointer (some ⟨g, i, none⟩) by rw [hval]; rfl)
              have E14 := Lib.hid (show val.getD 14 undef = .slice (some ⟨gi, 0, none⟩) ni ci by rw [hval]; rfl)
              have E15 := Lib.hid (show val.getD 15 undef = .int .i64 d1 by rw [hval]; rfl)
              have E16 := Lib.hid (show val.getD 16 undef = .slice (some ⟨g, 0, none⟩) n cap by rw [hval]; rfl)
              have E17 := Lib.hid (show val.getD 17 undef = .int .i64 k by rw [hval]; rfl)
              have E18 := Lib.hid (show val.getD 18 undef = .pointer (some ⟨g, k, none⟩) by rw [hval]; rfl)
              have E19 := Lib.hid (show val.getD 19 undef = .slice (some ⟨gk, 0, none⟩) nk ck by rw [hval]; rfl)
              have E20 := Lib.hid (show val.getD 20 undef = .int .i64 d2 by rw [hval]; rfl)
              have E21 := Lib.hid (show val.getD 21 undef = .bool false by rw [hval]; rfl)
              have E22 := Lib.hid (show val.getD 22 undef = .bool false by rw [hval]; rfl)
              clear hval
              obtain ⟨G, hG0⟩ : ∃ G : Nat → Value → World → Prop, G = (fun i v w => (v = val.getD i undef)) := ⟨_, rfl⟩
              have HG := Lib.hid hG0
              clear hG0
              refine region_inv (RS lit wr G) (by kernel_rfl) (by decide +kernel) ?_ ?_ ?_
              · exact ⟨fun i => ([u16, u17, u18, u19, u20, u21, u22, u23, u24, u25, u26, u27, u28, u29, u30, u31, u32, u33, u34, u35, u36, u37, u38] : List Value).getD i undef, (by rw [HLIT.out]; rfl), below_drew _ _, fun i h => by cases h⟩
              · refine ⟨?_, ?_, ?_, ?_, ?_, ?_, ?_, ?_, ?_, ?_, ?_, ?_, ?_, ?_, ?_, ?_, ?_, ?_, ?_, ?_, ?_, ?_, ?_, trivial⟩
                · intro bf ac wv hfb haf hJ K' hK
                  obtain ⟨vs, rfl, hM, j4⟩ := hJ
                  replace hK := Lib.hid hK
                  replace hM := Lib.hid hM
                  rw [HG.out] at j4
                  replace j4 := Lib.hid j4
                  clear haf hfb
                  rw [HLIT.out]
                  go_simp
                  exact hK.out _ _ (RS.next (wv := wv) (vs := vs) 0 (x := .slice (some ⟨g, 0, none⟩) n cap) (by rw [HLIT.out]; rfl) (by rw [HG.out]; exact j4.out) hM.out (by rw [HG.out]; exact fun _ _ h => h) (by rw [HG.out]; exact E0.out.symm))
                · intro bf ac wv hfb haf hJ K' hK
                  obtain ⟨vs, rfl, hM, j4⟩ := hJ
                  replace hK := Lib.hid hK
                  replace hM := Lib.hid hM
                  rw [HG.out] at j4
                  replace j4 := Lib.hid j4
                  clear haf hfb
                  rw [HLIT.out]
                  go_simp
                  exact hK.out _ _ (RS.next (wv := wv) (vs := vs) 1 (x := .int .i64 i) (by rw [HLIT.out]; rfl) (by rw [HG.out]; exact j4.out) hM.out (by rw [HG.out]; exact fun _ _ h => h) (by rw [HG.out]; exact E1.out.symm))
                · intro bf ac wv hfb haf hJ K' hK
                  obtain ⟨vs, rfl, hM, j4⟩ := hJ
                  replace hK := Lib.hid hK
                  replace hM := Lib.hid hM
                  rw [HG.out] at j4
                  simp [Region.binds] at haf
                  have e0 := ((j4 0 (by simp [haf]))).trans E0.out
                  have e1 := ((j4 1 (by simp [haf]))).trans E1.out
                  replace j4 := Lib.hid j4
                  clear haf hfb
                  rw [HLIT.out]
                  go_simp
                  exact hK.out _ _ (RS.next (wv := wv) (vs := vs) 2 (x := .pointer (some ⟨g, i, none⟩)) (by rw [HLIT.out]; simp only [upv, e0, e1, Nat.reduceBEq, cond_true, cond_false]) (by rw [HG.out]; exact j4.out) hM.out (by rw [HG.out]; exact fun _ _ h => h) (by rw [HG.out]; exact E2.out.symm))
                · intro bf ac wv hfb haf hJ K' hK
                  obtain ⟨vs, rfl, hM, j4⟩ := hJ
                  replace hK := Lib.hid hK
                  replace hM := Lib.hid hM
                  rw [HG.out] at j4
                  simp [Region.binds] at haf
                  have e2 := ((j4 2 (by simp [haf]))).trans E2.out
                  replace j4 := Lib.hid j4
                  clear haf hfb
                  have xg := keep1 hM.out XI.out
                  have xgz := World.block_lt_of_cell? _ _ xg
                  have xgz : g < wv.heap.size := xgz
                  rw [HLIT.out]
                  go_simp
                  exact hK.out _ _ (RS.next (wv := wv) (vs := vs) 3 (x := .slice (some ⟨gi, 0, none⟩) ni ci) (by rw [HLIT.out]; simp only [upv, e2, Nat.reduceBEq, cond_true, cond_false]) (by rw [HG.out]; exact j4.out) hM.out (by rw [HG.out]; exact fun _ _ h => h) (by rw [HG.out]; exact E3.out.symm))
                · intro bf ac wv hfb haf hJ K' hK
                  obtain ⟨vs, rfl, hM, j4⟩ := hJ
                  replace hK := Lib.hid hK
                  replace hM := Lib.hid hM
                  rw [HG.out] at j4
                  replace j4 := Lib.hid j4
                  clear haf hfb
                  rw [HLIT.out]
                  go_simp
                  exact hK.out _ _ (RS.next (wv := wv) (vs := vs) 4 (x := .slice (some ⟨g, 0, none⟩) n cap) (by rw [HLIT.out]; rfl) (by rw [HG.out]; exact j4.out) hM.out (by rw [HG.out]; exact fun _ _ h => h) (by rw [HG.out]; exact E4.out.symm))
                · intro bf ac wv hfb haf hJ K' hK
                  obtain ⟨vs, rfl, hM, j4⟩ := hJ
                  replace hK := Lib.hid hK
                  replace hM := Lib.hid hM
                  rw [HG.out] at j4
                  replace j4 := Lib.hid j4
                  clear haf hfb
                  rw [HLIT.out]
                  go_simp
                  exact hK.out _ _ (RS.next (wv := wv) (vs := vs) 5 (x := .int .i64 k) (by rw [HLIT.out]; rfl) (by rw [HG.out]; exact j4.out) hM.out (by rw [HG.out]; exact fun _ _ h => h) (by rw [HG.out]; exact E5.out.symm))
                · intro bf ac wv hfb haf hJ K' hK
                  obtain ⟨vs, rfl, hM, j4⟩ := hJ
                  replace hK := Lib.hid hK
                  replace hM := Lib.hid hM
                  rw [HG.out] at j4
                  simp [Region.binds] at haf
                  have e4 := ((j4 4 (by simp [haf]))).trans E4.out
                  have e5 := ((j4 5 (by simp [haf]))).trans E5.out
                  replace j4 := Lib.hid j4
                  clear haf hfb
                  rw [HLIT.out]
                  go_simp
                  exact hK.out _ _ (RS.next (wv := wv) (vs := vs) 6 (x := .pointer (some ⟨g, k, none⟩)) (by rw [HLIT.out]; simp only [upv, e4, e5, Nat.reduceBEq, cond_true, cond_false]) (by rw [HG.out]; exact j4.out) hM.out (by rw [HG.out]; exact fun _ _ h => h) (by rw [HG.out]; exact E6.out.symm))
                · intro bf ac wv hfb haf hJ K' hK
                  obtain ⟨vs, rfl, hM, j4⟩ := hJ
                  replace hK := Lib.hid hK
                  replace hM := Lib.hid hM
                  rw [HG.out] at j4
                  simp [Region.binds] at haf
                  have e6 := ((j4 6 (by simp [haf]))).trans E6.out
                  replace j4 := Lib.hid j4
                  clear haf hfb
                  have xg := keep1 hM.out XK.out
                  have xgz := World.block_lt_of_cell? _ _ xg
                  have xgz : g < wv.heap.size := xgz
                  rw [HLIT.out]
                  go_simp
                  exact hK.out _ _ (RS.next (wv := wv) (vs := vs) 7 (x := .slice (some ⟨gk, 0, none⟩) nk ck) (by rw [HLIT.out]; simp only [upv, e6, Nat.reduceBEq, cond_true, cond_false]) (by rw [HG.out]; exact j4.out) hM.out (by rw [HG.out]; exact fun _ _ h => h) (by rw [HG.out]; exact E7.out.symm))
                · intro bf ac wv hfb haf hJ K' hK
                  obtain ⟨vs, rfl, hM, j4⟩ := hJ
                  replace hK := Lib.hid hK
                  replace hM := Lib.hid hM
                  rw [HG.out] at j4
                  simp [Region.binds] at haf
                  have e3 := ((j4 3 (by simp [haf]))).trans E3.out
                  have e7 := ((j4 7 (by simp [haf]))).trans E7.out
                  replace j4 := Lib.hid j4
                  clear haf hfb
                  rw [HLIT.out]
                  go_simp
                  go_at_call 17
                  refine (ints_any _ _ li lk _ (HII.out.step hM.out) (HIK.out.step hM.out)).mono ?_
                  rintro e w4 ⟨rfl, n9, rfl⟩
                  rw [decide_eq_false hb.out]
                  have b4 : Below wv.heap.size wv (wv.drewN n9) := below_drewN' _ _ _
                  exact hK.out _ _ (RS.next (wv := wv) (vs := vs) 8 (x := .bool false) (by rw [HLIT.out]; simp only [upv, e3, e7, Nat.reduceBEq, cond_true, cond_false]) (by rw [HG.out]; exact j4.out) (keep2 b4 hM.out) (by rw [HG.out]; exact fun _ _ h => h) (by rw [HG.out]; exact E8.out.symm))
                · intro bf ac wv hfb haf hJ K' hK
                  obtain ⟨vs, rfl, hM, j4⟩ := hJ
                  replace hK := Lib.hid hK
                  replace hM := Lib.hid hM
                  rw [HG.out] at j4
                  simp [Region.binds] at haf
                  have e8 := ((j4 8 (by simp [haf]))).trans E8.out
                  replace j4 := Lib.hid j4
                  clear haf hfb
                  rw [HLIT.out]
                  go_simp
                  exact hK.out _ _ (RS.next (wv := wv) (vs := vs) 9 (x := .bool true) (by rw [HLIT.out]; simp only [upv, e8, Nat.reduceBEq, cond_true, cond_false]) (by rw [HG.out]; exact j4.out) hM.out (by rw [HG.out]; exact fun _ _ h => h) (by rw [HG.out]; exact E9.out.symm))
                · intro bf ac wv hfb haf hJ K' hK
                  obtain ⟨vs, rfl, hM, j4⟩ := hJ
                  replace hK := Lib.hid hK
                  replace hM := Lib.hid hM
                  rw [HG.out] at j4
                  simp [Region.binds] at haf
                  have e9 := ((j4 9 (by simp [haf]))).trans E9.out
                  replace j4 := Lib.hid j4
                  clear haf hfb
                  rw [HLIT.out]
                  go_simp
                  exact hK.out _ _ (RS.next (wv := wv) (vs := vs) 10 (x := .bool true) (by rw [HLIT.out]; simp only [upv, e9, Nat.reduceBEq, cond_true, cond_false]) (by rw [HG.out]; exact j4.out) hM.out (by rw [HG.out]; exact fun _ _ h => h) (by rw [HG.out]; exact E10.out.symm))
                · intro bf ac wv hfb haf hJ K' hK
                  obtain ⟨vs, rfl, hM, j4⟩ := hJ
                  replace hK := Lib.hid hK
                  replace hM := Lib.hid hM
                  rw [HG.out] at j4
                  simp [Region.binds] at haf
                  have e10 := ((j4 10 (by simp [haf]))).trans E10.out
                  replace j4 := Lib.hid j4
                  clear haf hfb
                  rw [HLIT.out]
                  go_simp
                  exact hK.out _ _ (RS.next (wv := wv) (vs := vs) 11 (x := .slice (some ⟨g, 0, none⟩) n cap) (by rw [HLIT.out]; simp only [upv, e10, Nat.reduceBEq, cond_true, cond_false]) (by rw [HG.out]; exact j4.out) hM.out (by rw [HG.out]; exact fun _ _ h => h) (by rw [HG.out]; exact E11.out.symm))
                · intro bf ac wv hfb haf hJ K' hK
                  obtain ⟨vs, rfl, hM, j4⟩ := hJ
                  replace hK := Lib.hid hK
                  replace hM := Lib.hid hM
                  rw [HG.out] at j4
                  simp [Region.binds] at haf
                  have e10 := ((j4 10 (by simp [haf]))).trans E10.out
                  replace j4 := Lib.hid j4
                  clear haf hfb
                  rw [HLIT.out]
                  go_simp
                  exact hK.out _ _ (RS.next (wv := wv) (vs := vs) 12 (x := .int .i64 i) (by rw [HLIT.out]; simp only [upv, e10, Nat.reduceBEq, cond_true, cond_false]) (by rw [HG.out]; exact j4.out) hM.out (by rw [HG.out]; exact fun _ _ h => h) (by rw [HG.out]; exact E12.out.symm))
                · intro bf ac wv hfb haf hJ K' hK
                  obtain ⟨vs, rfl, hM, j4⟩ := hJ
                  replace hK := Lib.hid hK
                  replace hM := Lib.hid hM
                  rw [HG.out] at j4
                  simp [Region.binds] at haf
                  have e10 := ((j4 10 (by simp [haf]))).trans E10.out
                  have e11 := ((j4 11 (by simp [haf]))).trans E11.out
                  have e12 := ((j4 12 (by simp [haf]))).trans E12.out
                  replace j4 := Lib.hid j4
                  clear haf hfb
                  rw [HLIT.out]
                  go_simp
                  exact hK.out _ _ (RS.next (wv := wv) (vs := vs) 13 (x := .pointer (some ⟨g, i, none⟩)) (by rw [HLIT.out]; simp only [upv, e10, e11, e12, Nat.reduceBEq, cond_true, cond_false]) (by rw [HG.out]; exact j4.out) hM.out (by rw [HG.out]; exact fun _ _ h => h) (by rw [HG.out]; exact E13.out.symm))
                · intro bf ac wv hfb haf hJ K' hK
                  obtain ⟨vs, rfl, hM, j4⟩ := hJ
                  replace hK := Lib.hid hK
                  replace hM := Lib.hid hM
                  rw [HG.out] at j4
                  simp [Region.binds] at haf
                  have e10 := ((j4 10 (by simp [haf]))).trans E10.out
                  have e13 := ((j4 13 (by simp [haf]))).trans E13.out
                  replace j4 := Lib.hid j4
                  clear haf hfb
                  have xg := keep1 hM.out XI.out
                  have xgz := World.block_lt_of_cell? _ _ xg
                  have xgz : g < wv.heap.size := xgz
                  rw [HLIT.out]
                  go_simp
                  exact hK.out _ _ (RS.next (wv := wv) (vs := vs) 14 (x := .slice (some ⟨gi, 0, none⟩) ni ci) (by rw [HLIT.out]; simp only [upv, e10, e13, Nat.reduceBEq, cond_true, cond_false]) (by rw [HG.out]; exact j4.out) hM.out (by rw [HG.out]; exact fun _ _ h => h) (by rw [HG.out]; exact E14.out.symm))
                · intro bf ac wv hfb haf hJ K' hK
                  obtain ⟨vs, rfl, hM, j4⟩ := hJ
                  replace hK := Lib.hid hK
                  replace hM := Lib.hid hM
                  rw [HG.out] at j4
                  simp [Region.binds] at haf
                  have e10 := ((j4 10 (by simp [haf]))).trans E10.out
                  have e14 := ((j4 14 (by simp [haf]))).trans E14.out
                  replace j4 := Lib.hid j4
                  clear haf hfb
                  rw [HLIT.out]
                  go_simp
                  go_at_call 51
                  refine (rsumB_any _ _ _ (HII.out.step hM.out)).mono ?_
                  rintro e w4 ⟨rfl, b4⟩
                  rw [hd1.out]
                  exact hK.out _ _ (RS.next (wv := wv) (vs := vs) 15 (x := .int .i64 d1) (by rw [HLIT.out]; simp only [upv, e10, e14, Nat.reduceBEq, cond_true, cond_false]) (by rw [HG.out]; exact j4.out) (keep2 b4 hM.out) (by rw [HG.out]; exact fun _ _ h => h) (by rw [HG.out]; exact E15.out.symm))
                · intro bf ac wv hfb haf hJ K' hK
                  obtain ⟨vs, rfl, hM, j4⟩ := hJ
                  replace hK := Lib.hid hK
                  replace hM := Lib.hid hM
                  rw [HG.out] at j4
                  simp [Region.binds] at haf
                  have e10 := ((j4 10 (by simp [haf]))).trans E10.out
                  replace j4 := Lib.hid j4
                  clear haf hfb
                  rw [HLIT.out]
                  go_simp
                  exact hK.out _ _ (RS.next (wv := wv) (vs := vs) 16 (x := .slice (some ⟨g, 0, none⟩) n cap) (by rw [HLIT.out]; simp only [upv, e10, Nat.reduceBEq, cond_true, cond_false]) (by rw [HG.out]; exact j4.out) hM.out (by rw [HG.out]; exact fun _ _ h => h) (by rw [HG.out]; exact E16.out.symm))
                · intro bf ac wv hfb haf hJ K' hK
                  obtain ⟨vs, rfl, hM, j4⟩ := hJ
                  replace hK := Lib.hid hK
                  replace hM := Lib.hid hM
                  rw [HG.out] at j4
                  simp [Region.binds] at haf
                  have e10 := ((j4 10 (by simp [haf]))).trans E10.out
                  replace j4 := Lib.hid j4
                  clear haf hfb
                  rw [HLIT.out]
                  go_simp
                  exact hK.out _ _ (RS.next (wv := wv) (vs := vs) 17 (x := .int .i64 k) (by rw [HLIT.out]; simp only [upv, e10, Nat.reduceBEq, cond_true, cond_false]) (by rw [HG.out]; exact j4.out) hM.out (by rw [HG.out]; exact fun _ _ h => h) (by rw [HG.out]; exact E17.out.symm))
                · intro bf ac wv hfb haf hJ K' hK
                  obtain ⟨vs, rfl, hM, j4⟩ := hJ
                  replace hK := Lib.hid hK
                  replace hM := Lib.hid hM
                  rw [HG.out] at j4
                  simp [Region.binds] at haf
                  have e10 := ((j4 10 (by simp [haf]))).trans E10.out
                  have e16 := ((j4 16 (by simp [haf]))).trans E16.out
                  have e17 := ((j4 17 (by simp [haf]))).trans E17.out
                  replace j4 := Lib.hid j4
                  clear haf hfb
                  rw [HLIT.out]
                  go_simp
                  exact hK.out _ _ (RS.next (wv := wv) (vs := vs) 18 (x := .pointer (some ⟨g, k, none⟩)) (by rw [HLIT.out]; simp only [upv, e10, e16, e17, Nat.reduceBEq, cond_true, cond_false]) (by rw [HG.out]; exact j4.out) hM.out (by rw [HG.out]; exact fun _ _ h => h) (by rw [HG.out]; exact E18.out.symm))
                · intro bf ac wv hfb haf hJ K' hK
                  obtain ⟨vs, rfl, hM, j4⟩ := hJ
                  replace hK := Lib.hid hK
                  replace hM := Lib.hid hM
                  rw [HG.out] at j4
                  simp [Region.binds] at haf
                  have e10 := ((j4 10 (by simp [haf]))).trans E10.out
                  have e18 := ((j4 18 (by simp [haf]))).trans E18.out
                  replace j4 := Lib.hid j4
                  clear haf hfb
                  have xg := keep1 hM.out XK.out
                  have xgz := World.block_lt_of_cell? _ _ xg
                  have xgz : g < wv.heap.size := xgz
                  rw [HLIT.out]
                  go_simp
                  exact hK.out _ _ (RS.next (wv := wv) (vs := vs) 19 (x := .slice (some ⟨gk, 0, none⟩) nk ck) (by rw [HLIT.out]; simp only [upv, e10, e18, Nat.reduceBEq, cond_true, cond_false]) (by rw [HG.out]; exact j4.out) hM.out (by rw [HG.out]; exact fun _ _ h => h) (by rw [HG.out]; exact E19.out.symm))
                · intro bf ac wv hfb haf hJ K' hK
                  obtain ⟨vs, rfl, hM, j4⟩ := hJ
                  replace hK := Lib.hid hK
                  replace hM := Lib.hid hM
                  rw [HG.out] at j4
                  simp [Region.binds] at haf
                  have e10 := ((j4 10 (by simp [haf]))).trans E10.out
                  have e19 := ((j4 19 (by simp [haf]))).trans E19.out
                  replace j4 := Lib.hid j4
                  clear haf hfb
                  rw [HLIT.out]
                  go_simp
                  go_at_call 51
                  refine (rsumB_any _ _ _ (HIK.out.step hM.out)).mono ?_
                  rintro e w4 ⟨rfl, b4⟩
                  rw [hd2.out]
                  exact hK.out _ _ (RS.next (wv := wv) (vs := vs) 20 (x := .int .i64 d2) (by rw [HLIT.out]; simp only [upv, e10, e19, Nat.reduceBEq, cond_true, cond_false]) (by rw [HG.out]; exact j4.out) (keep2 b4 hM.out) (by rw [HG.out]; exact fun _ _ h => h) (by rw [HG.out]; exact E20.out.symm))
                · intro bf ac wv hfb haf hJ K' hK
                  obtain ⟨vs, rfl, hM, j4⟩ := hJ
                  replace hK := Lib.hid hK
                  replace hM := Lib.hid hM
                  rw [HG.out] at j4
                  simp [Region.binds] at haf
                  have e10 := ((j4 10 (by simp [haf]))).trans E10.out
                  have e15 := ((j4 15 (by simp [haf]))).trans E15.out
                  have e20 := ((j4 20 (by simp [haf]))).trans E20.out
                  replace j4 := Lib.hid j4
                  clear haf hfb
                  rw [HLIT.out]
                  go_simp
                  exact hK.out _ _ (RS.next (wv := wv) (vs := vs) 21 (x := .bool false) (by rw [HLIT.out]; simp only [upv, e10, e15, e20, Nat.reduceBEq, cond_true, cond_false]) (by rw [HG.out]; exact j4.out) hM.out (by rw [HG.out]; exact fun _ _ h => h) (by rw [HG.out]; exact E21.out.symm))
                · intro bf ac wv hfb haf hJ K' hK
                  obtain ⟨vs, rfl, hM, j4⟩ := hJ
                  replace hK := Lib.hid hK
                  replace hM := Lib.hid hM
                  rw [HG.out] at j4
                  simp [Region.binds] at haf
                  have e10 := ((j4 10 (by simp [haf]))).trans E10.out
                  have e21 := ((j4 21 (by simp [haf]))).trans E21.out
                  replace j4 := Lib.hid j4
                  clear haf hfb
                  rw [HLIT.out]
                  go_simp
                  exact hK.out _ _ (RS.next (wv := wv) (vs := vs) 22 (x := .bool false) (by rw [HLIT.out]; simp only [upv, e10, e21, Nat.reduceBEq, cond_true, cond_false]) (by rw [HG.out]; exact j4.out) hM.out (by rw [HG.out]; exact fun _ _ h => h) (by rw [HG.out]; exact E22.out.symm))
              · intro bf ac wv hall hJ
                obtain ⟨vs, rfl, hM, j4⟩ := hJ
                rw [HG.out] at j4
                have e22 := ((j4 22 (hall 22 (by decide)))).trans E22.out
                have HB9 := Lib.hid (HB.out.trans (hM.mono HB.out.size))
                clear hM hall j4
                rw [HLIT.out]
                dsimp only
                rw [e22]
                clear e22
                go_wp2
                go_roundw
                case rel => exact ⟨k + 1, by omega, by go_num, HF, HB9⟩
                case measure => simp [intOf]; omega
        · have hki : k = i := by omega
          have HN2 := Lib.hid (show ∀ i' k', i' < i + 1 → k' < i' → ¬ cdB L i' k' from fun i' k' h1 h2 => by
            by_cases e : i' = i
            · subst e; exact HK.out k' (by omega)
            · exact HN.out i' k' (by omega) h2)
          go_wp2
          go_roundw
          case rel => exact ⟨i + 1, by omega, by go_num, HN2, HB⟩
          case measure => simp [intOf]; omega
    · exfalso
      obtain ⟨i9, j9, h1, h2, h3⟩ := HC.out
      rw [hn.out] at h2
      exact HN.out i9 j9 (by omega) h1 h3
end Go.Proofs.Ytdifgdnndmikaaa
